"""What must come before what, among the deeds of a run whose trays are carried out."""

from traylate.errors import Waiting
from traylate.steps import NAMES


def refuse_waiting(machine):
    for clerk in range(len(machine.program)):
        if len(machine.waiting(clerk)) > 0:
            raise Waiting(clerk)


def neighbours(numbers, why):
    return [(one, other, why) for one, other in zip(numbers, numbers[1:])]


def by_own(machine):
    found = []
    for clerk in range(len(machine.program)):
        own = [number for number, deed in enumerate(machine.deeds()) if deed[1] == clerk]
        found.extend(neighbours(own, "own"))
    return found


def by_seen(machine):
    return [(deed[5], number, "seen") for number, deed in enumerate(machine.deeds()) if deed[5] is not None]


def by_over(machine):
    found = []
    for name in range(NAMES):
        found.extend(neighbours(machine.over(name), "over"))
    return found


def comers_behind(machine):
    # Keyed by name and deed: for a name's first 0 there is no deed, so None stands for it.
    found = {}
    for name in range(NAMES):
        comers = machine.over(name)
        for one, other in zip([None] + comers, comers):
            found[(name, one)] = other
    return found


def by_ahead(machine):
    behind = comers_behind(machine)
    found = []
    for number, deed in enumerate(machine.deeds()):
        other = None if deed[3] is None else behind.get((deed[2], deed[5]))
        # What came next behind the setting that a swap got is the swap itself.
        if other is not None and other != number:
            found.append((number, other, "ahead"))
    return found


def before(machine):
    refuse_waiting(machine)
    return sorted(by_own(machine) + by_seen(machine) + by_over(machine) + by_ahead(machine))
