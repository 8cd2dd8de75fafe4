"""The seven kinds of step, and what is told of each."""

from traylate.errors import NoStep

# 10 ** 60: numbers lie below it.
TOP = 1_000_000_000_000_000_000_000_000_000_000_000_000_000_000_000_000_000_000_000_000

NAMES = 12
REGISTERS = 4
# A part has no more steps than this, so no place lies farther.
LONGEST = 120


class Step:
    def __init__(self, told):
        self.parts = tuple(told)

    def told(self):
        return self.parts

    def nexts(self, place):
        return [place + 1]

    def sets(self):
        return None

    def looks(self):
        return None

    def empties(self):
        return False


class Put(Step):
    def __init__(self, told):
        Step.__init__(self, told)
        self.reg = told[1]
        self.number = told[2]


class Add(Step):
    def __init__(self, told):
        Step.__init__(self, told)
        self.reg = told[1]
        self.other = told[2]


class Set(Step):
    def __init__(self, told):
        Step.__init__(self, told)
        self.name = told[1]
        self.reg = told[2]

    def sets(self):
        return self.name


class Look(Step):
    def __init__(self, told):
        Step.__init__(self, told)
        self.reg = told[1]
        self.name = told[2]

    def looks(self):
        return self.name


class Swap(Step):
    def __init__(self, told):
        Step.__init__(self, told)
        self.reg = told[1]
        self.name = told[2]

    def sets(self):
        return self.name

    def looks(self):
        return self.name

    def empties(self):
        return True


class Clear(Step):
    def empties(self):
        return True


class Skip(Step):
    def __init__(self, told):
        Step.__init__(self, told)
        self.reg = told[1]
        self.place = told[2]

    def nexts(self, place):
        return sorted(set([place + 1, self.place]))


def is_whole(thing):
    # Python counts True and False among its ints; here they are no numbers.
    return isinstance(thing, int) and not isinstance(thing, bool)


def bounds_of(word):
    if word == "put":
        return [REGISTERS, TOP]
    if word == "add":
        return [REGISTERS, REGISTERS]
    if word == "set":
        return [NAMES, REGISTERS]
    if word == "look" or word == "swap":
        return [REGISTERS, NAMES]
    if word == "clear":
        return []
    if word == "skip":
        return [REGISTERS, LONGEST + 1]
    return None


def is_step(told):
    if not isinstance(told, tuple) or len(told) == 0 or not isinstance(told[0], str):
        return False
    bounds = bounds_of(told[0])
    if bounds is None or len(told) != len(bounds) + 1:
        return False
    return all([is_whole(part) and 0 <= part < bound for part, bound in zip(told[1:], bounds)])


def step_of(told):
    if not is_step(told):
        # What was told is not shown: Python shows no number of some thousands of figures.
        raise NoStep("this is no step")
    word = told[0]
    if word == "put":
        return Put(told)
    if word == "add":
        return Add(told)
    if word == "set":
        return Set(told)
    if word == "look":
        return Look(told)
    if word == "swap":
        return Swap(told)
    if word == "clear":
        return Clear(told)
    return Skip(told)
