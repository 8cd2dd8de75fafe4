"""Orders: a row of all deeds of a run, or a ring of deeds each of which must come before the next."""

from traylate.befores import before


def counted_out(many, befores):
    missing = [0] * many
    behind = [[] for number in range(many)]
    for one, other, why in befores:
        missing[other] += 1
        behind[one].append(other)
    ready = [number for number in range(many) if missing[number] == 0]
    row = []
    while len(ready) > 0:
        # No more than one deed of each clerk is ever ready, so the least is soon found.
        number = min(ready)
        ready.remove(number)
        row.append(number)
        for other in behind[number]:
            missing[other] -= 1
            if missing[other] == 0:
                ready.append(other)
    return row


def pairs_ahead(row, befores):
    # Whatever must come behind a deed that found no place in the row found none either.
    placed = dict([(number, True) for number in row])
    found = {}
    for one, other, why in befores:
        if one not in placed:
            found[other] = (one, why)
    return found


def ring_of(row, befores):
    ahead = pairs_ahead(row, befores)
    number = min(list(ahead))
    way = []
    come_to = {}
    # Each deed without a place has another such ahead of it, so going back from one to the next comes round.
    while number not in come_to:
        come_to[number] = len(way)
        way.append(ahead[number])
        number = ahead[number][0]
    return tuple(reversed(way[come_to[number]:]))


def order(machine):
    befores = before(machine)
    many = machine.deeds_done()
    row = counted_out(many, befores)
    if len(row) == many:
        return ("row", row)
    return ("ring", ring_of(row, befores))
