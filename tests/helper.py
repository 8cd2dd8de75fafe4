"""What several test files need: all that a machine tells, making several moves, programs and runs by chance, bad
programs, and papers counted out plainly.
"""

from traylate.errors import NoClerks, NoProgram, TrayError, Waiting
from traylate.machines import Machine

KINDS = ["row", "name", "none"]
TOP = 10 ** 60
CLEAR = ("clear",)
# What is no tuple of one to four tuples.
BAD_CLERKS = [None, 0, "", "clerk", [], [()], (), ((),) * 5, ([],), (None,), ((), [CLEAR])]
# Bad programs, each with the clerk and the place of its first bad step.
BAD_PROGRAMS = [
    (((("put", 4, 0),),), 0, 0),
    (((), (CLEAR, None)), 1, 1),
    (((CLEAR,), (CLEAR,), (CLEAR, ("skip", 0, 3))), 2, 1),
    (((CLEAR,) * 121, (None,)), 0, 120),
    (((), (), (), (CLEAR, CLEAR, ["clear"])), 3, 2),
]


def stand(machine):
    """All that is told of a machine."""
    clerks = range(len(machine.program))
    return {
        "program": machine.program,
        "kind": machine.kind,
        "moves": machine.moves(),
        "ended": machine.ended(),
        "places": [machine.where(clerk) for clerk in clerks],
        "done": [machine.steps_done(clerk) for clerk in clerks],
        "registers": [machine.registers(clerk) for clerk in clerks],
        "waiting": [machine.waiting(clerk) for clerk in clerks],
        "board": machine.board(),
        "deeds": machine.deeds(),
        "over": [machine.over(name) for name in range(12)],
    }


def make(machine, moves):
    """Makes moves told as a text: d0 is ("do", 0), c0.3 is ("carry", 0, 3)."""
    for word in moves.split():
        numbers = [int(number) for number in word[1:].split(".")]
        machine.do(({"d": "do", "c": "carry"}[word[0]],) + tuple(numbers))


def board_with(numbers):
    """A board of noughts but for the names in the dict."""
    return [numbers.get(name, 0) for name in range(12)]


def some_step(chance, length):
    reg, other, name = chance.randrange(4), chance.randrange(4), chance.choice([0, 1, 2, 11])
    number = chance.choice([0, 0, 1, 2, TOP // 2, TOP - 1])
    return chance.choice([
        ("put", reg, number), ("add", reg, other), ("set", name, reg), ("set", name, reg), ("look", reg, name),
        ("look", reg, name), ("swap", reg, name), ("clear",), ("skip", reg, chance.randrange(length + 1)),
    ])


def some_program(chance):
    parts = []
    for clerk in range(chance.randrange(1, 5)):
        length = chance.randrange(13)
        parts.append(tuple(some_step(chance, length) for place in range(length)))
    return tuple(parts)


def some_crossing_program(chance):
    """Few names, and mostly sets and looks: its clerks come across one another often."""
    words = ["set"] * 6 + ["look"] * 6 + ["put", "add", "swap", "clear"]
    parts = []
    for clerk in range(chance.randrange(1, 5)):
        steps = []
        for place in range(chance.randrange(2, 9)):
            reg, name = chance.randrange(3), chance.randrange(3)
            word = chance.choice(words)
            steps.append({
                "set": ("set", name, reg), "look": ("look", reg, name), "put": ("put", reg, chance.randrange(3)),
                "add": ("add", reg, reg), "swap": ("swap", reg, name), "clear": ("clear",),
            }[word])
        # Register 3 always has 0: so it goes round.
        parts.append(tuple(steps) + (("skip", 3, 0),))
    return tuple(parts)


def some_small_program(chance, clerks=2, length=4):
    """So small that all its stands are soon found: few names and numbers, skips forth and now and then back."""
    parts = []
    for clerk in range(chance.choice([1, clerks, clerks, clerks])):
        many = chance.choice([0] + [length // 2, length - 1, length, length] * 2)
        steps = [("put", 0, chance.choice([clerk + 1, clerk + 1, TOP - 1]))][:many]
        for place in range(1, many):
            reg, name = chance.randrange(2), chance.randrange(2)
            aim = chance.randrange(0 if chance.randrange(4) == 0 else place, many) + 1
            steps.append(chance.choice([
                ("add", reg, 1 - reg), ("set", name, reg), ("set", name, 0), ("set", name, 0), ("look", reg, name),
                ("look", 1, name), ("look", 1, name), ("swap", reg, name), CLEAR, ("skip", reg, aim),
            ]))
        parts.append(tuple(steps))
    return tuple(parts)


def run(machine, chance, most):
    """Makes moves by chance, carries seldom, most of them at most, and carries out the trays."""
    for made in range(most):
        moves = machine.moves()
        if not moves:
            break
        dos = [move for move in moves if move[0] == "do"]
        machine.do(chance.choice(dos if dos and chance.randrange(5) else moves))
    machine.settle()
    return machine


def refused_waiting(case, ask, machine):
    """The clerk with whom a question is refused with Waiting; the machine is not changed by it."""
    kept = stand(machine)
    with case.assertRaises(Waiting) as caught:
        ask(machine)
    case.assertIsInstance(caught.exception, TrayError)
    case.assertIs(type(caught.exception.clerk), int)
    case.assertEqual(stand(machine), kept)
    return caught.exception.clerk


def check_first_waiting(case, ask):
    """That the clerk told with Waiting is the first one in whose tray something waits."""
    rows = [("d0", 0), ("d1", 1), ("d3", 3), ("d3 d1", 1), ("d2 d3", 2), ("d3 d2 d1 d0", 0), ("d0 d2 c0.3", 2)]
    for kind in ["row", "name"]:
        for moves, clerk in rows:
            machine = Machine(((("set", 3, 0),),) * 4, kind)
            make(machine, moves)
            case.assertEqual(refused_waiting(case, ask, machine), clerk)


def check_refuses_programs(case, ask):
    """That a question about a program refuses the bad ones as [7] says."""
    for bad in BAD_CLERKS:
        with case.assertRaises(NoClerks) as caught:
            ask(bad)
        case.assertIs(type(caught.exception), NoClerks)
    for bad, clerk, place in BAD_PROGRAMS:
        with case.assertRaises(NoProgram) as caught:
            ask(bad)
        case.assertIs(type(caught.exception), NoProgram)
        case.assertEqual((caught.exception.clerk, caught.exception.place), (clerk, place))


def names_in(number):
    return {name for name in range(12) if number >> name & 1}


def as_number(names):
    return sum(1 << name for name in names)


def nexts_of(step, place):
    return {place + 1, step[2]} if step[0] == "skip" else {place + 1}


def names_set_by_others(program, clerk):
    """The names that another clerk's part sets or swaps."""
    steps = [step for other, part in enumerate(program) if other != clerk for step in part]
    return {step[1] for step in steps if step[0] == "set"} | {step[2] for step in steps if step[0] == "swap"}


def plain_marks(program):
    """The marks counted out name by name: where a way leads from its sets, past no clear and no swap."""
    paper = []
    for part in program:
        row = [set() for place in range(len(part) + 1)]
        for name in range(12):
            heads = [place + 1 for place, step in enumerate(part) if step[:2] == ("set", name)]
            while heads:
                place = heads.pop()
                if name not in row[place]:
                    row[place].add(name)
                    if place < len(part) and part[place][0] not in ("clear", "swap"):
                        heads.extend(nexts_of(part[place], place))
        paper.append(tuple(as_number(names) for names in row))
    return tuple(paper)


def plain_faults(program, paper, kind):
    """All faults of a paper of the right size, in their order."""
    faults = []
    for clerk, part in enumerate(program):
        sets = [names_in(number) for number in paper[clerk]]
        for place, step in enumerate(part):
            if step[0] == "look" and step[2] in names_set_by_others(program, clerk):
                faults += [("look", clerk, place, name) for name in sorted(sets[place] - {step[2]})[:1]]
            if step[0] == "set" and kind == "name":
                faults += [("set", clerk, place, name) for name in sorted(sets[place] - {step[1]})[:1]]
            must = set() if step[0] in ("clear", "swap") else set(sets[place])
            if step[0] == "set":
                must.add(step[1])
            faults += [("open", clerk, place, after) for after in sorted(nexts_of(step, place)) if must - sets[after]]
    return faults


def plain_fault(program, paper, kind):
    return (plain_faults(program, paper, kind) + [None])[0]


def looks_at_fault(program):
    """Clerk and place of each look that is at fault by the marks."""
    faults = plain_faults(program, plain_marks(program), "row")
    return [(clerk, place) for word, clerk, place, name in faults if word == "look"]
