"""Papers: for each place the names that may wait in a clerk's tray there, and what is at fault in them.

A set of names is a whole number: bit n is set where name n is in it.
"""

from traylate.programs import setters
from traylate.steps import NAMES, Look, Set, is_whole, step_of


def has_name(names, name):
    return (names >> name) & 1 == 1


def with_name(names, name):
    return names | (1 << name)


def without_all(names, others):
    return names - (names & others)


def without_name(names, name):
    return without_all(names, 1 << name)


def least_name(names):
    return min([name for name in range(NAMES) if has_name(names, name)])


def names_of_others(program):
    # For each clerk, once for all its looks: the names that another clerk's part sets or swaps.
    found = [0 for part in program]
    for name in range(NAMES):
        clerks = setters(program, name)
        for clerk in range(len(program)):
            if any([setter != clerk for setter in clerks]):
                found[clerk] = with_name(found[clerk], name)
    return found


def has_length(thing, length):
    return isinstance(thing, (list, tuple)) and len(thing) == length


def is_set_of_names(thing):
    return is_whole(thing) and 0 <= thing < 1 << NAMES


def has_size(program, paper):
    if not has_length(paper, len(program)):
        return False
    for part, row in zip(program, paper):
        if not has_length(row, len(part) + 1) or not all([is_set_of_names(thing) for thing in row]):
            return False
    return True


def is_look_at_fault(step, names, foreign):
    return isinstance(step, Look) and has_name(foreign, step.name) and without_name(names, step.name) != 0


def is_set_at_fault(step, names, kind):
    return isinstance(step, Set) and kind == "name" and without_name(names, step.name) != 0


def names_behind(step, names):
    if step.empties():
        return 0
    if isinstance(step, Set):
        return with_name(names, step.name)
    return names


def places_lacking(step, place, row):
    behind = names_behind(step, row[place])
    return [after for after in step.nexts(place) if without_all(behind, row[after]) != 0]


def fault_at(step, place, row, foreign, kind):
    names = row[place]
    if is_look_at_fault(step, names, foreign):
        return ("look", least_name(without_name(names, step.name)))
    if is_set_at_fault(step, names, kind):
        return ("set", least_name(without_name(names, step.name)))
    lacking = places_lacking(step, place, row)
    return None if len(lacking) == 0 else ("open", lacking[0])


def fault(program, paper, kind="row"):
    if not has_size(program, paper):
        return ("size",)
    foreign = names_of_others(program)
    for clerk, part in enumerate(program):
        for place, told in enumerate(part):
            found = fault_at(step_of(told), place, paper[clerk], foreign[clerk], kind)
            if found is not None:
                return (found[0], clerk, place, found[1])
    return None


def marks_of_part(part):
    steps = [step_of(told) for told in part]
    row = [0] * (len(part) + 1)
    grown = True
    while grown:
        grown = False
        for place, step in enumerate(steps):
            behind = names_behind(step, row[place])
            lacking = places_lacking(step, place, row)
            for after in lacking:
                row[after] = row[after] | behind
                grown = True
    return tuple(row)


def marks(program):
    return tuple([marks_of_part(part) for part in program])
