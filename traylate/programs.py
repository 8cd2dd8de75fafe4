"""Programs: whether one is good, and who sets a name in it."""

from traylate.errors import NoClerks, NoProgram, NoStep
from traylate.steps import LONGEST, Skip, step_of

CLERKS = 4


def has_clerks(program):
    if not isinstance(program, tuple) or not 1 <= len(program) <= CLERKS:
        return False
    return all([isinstance(part, tuple) for part in program])


def fits(told, place, length):
    try:
        step = step_of(told)
    except NoStep:
        return False
    if isinstance(step, Skip) and step.place > length:
        return False
    return place < LONGEST


def look_over(program):
    if not has_clerks(program):
        raise NoClerks("this is no tuple of one to four tuples")
    for clerk, part in enumerate(program):
        for place, told in enumerate(part):
            if not fits(told, place, len(part)):
                raise NoProgram(clerk, place)


def part_sets(part, name):
    return any([step_of(told).sets() == name for told in part])


def setters(program, name):
    return [clerk for clerk, part in enumerate(program) if part_sets(part, name)]
