"""Clears put in: ahead of each look that the marks have at fault, so that every run has a row."""

from traylate.papers import is_look_at_fault, marks, names_of_others
from traylate.programs import look_over
from traylate.steps import Skip, step_of


def looks_at_fault(part, row, foreign):
    return [place for place, told in enumerate(part) if is_look_at_fault(step_of(told), row[place], foreign)]


def moved_step(told, looks):
    step = step_of(told)
    if not isinstance(step, Skip):
        return told
    # The clear just ahead of the place skipped to is not counted: the skip goes to this clear.
    ahead = len([place for place in looks if place < step.place])
    return ("skip", step.reg, step.place + ahead)


def cleared_part(part, looks):
    steps = []
    for place, told in enumerate(part):
        if place in looks:
            steps.append(("clear",))
        steps.append(moved_step(told, looks))
    return tuple(steps)


def cleared(program):
    look_over(program)
    parts = []
    for part, row, foreign in zip(program, marks(program), names_of_others(program)):
        parts.append(cleared_part(part, looks_at_fault(part, row, foreign)))
    return tuple(parts)
