"""The plain board: the deeds of a run done again, in a row, on a machine that has no trays."""

from traylate.errors import Unlike
from traylate.machines import Machine
from traylate.steps import is_whole


def has_each_once(row, many):
    return all([is_whole(number) for number in row]) and sorted(row) == list(range(many))


def may_go_on(plain, machine, clerk):
    return plain.steps_done(clerk) < machine.steps_done(clerk) and not plain.at_end(clerk)


def comes_to_deed(plain, machine, clerk):
    many = plain.deeds_done()
    while plain.deeds_done() == many and may_go_on(plain, machine, clerk):
        plain.do(("do", clerk))
    return plain.deeds_done() > many


def is_like(done, told, row):
    # The deeds of the plain machine are numbered by their places in the row.
    seen = None if done[5] is None else row[done[5]]
    return done[:5] == told[:5] and seen == told[5]


def do_deeds(plain, machine, row):
    deeds = machine.deeds()
    for place, number in enumerate(row):
        if not comes_to_deed(plain, machine, deeds[number][1]):
            raise Unlike(number)
        if not is_like(plain.deed_at(place), deeds[number], row):
            raise Unlike(number)


def do_rest(plain, machine):
    for clerk in range(len(machine.program)):
        while may_go_on(plain, machine, clerk):
            plain.do(("do", clerk))


def replay(machine, row):
    if not has_each_once(row, machine.deeds_done()):
        raise Unlike(None)
    plain = Machine(machine.program, "none")
    do_deeds(plain, machine, row)
    do_rest(plain, machine)
    return plain
