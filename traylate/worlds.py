"""Worlds: all ends that the runs of a program can come to."""

from traylate.machines import Machine


def registers_of(machine):
    return tuple([tuple(machine.registers(clerk)) for clerk in range(len(machine.program))])


def end_of(machine):
    return (registers_of(machine), tuple(machine.board()))


def stand_of(machine):
    places = tuple([machine.where(clerk) for clerk in range(len(machine.program))])
    waiting = tuple([tuple(machine.waiting(clerk)) for clerk in range(len(machine.program))])
    return (places, waiting, end_of(machine))


def behind_move(machine, move):
    other = machine.twin()
    other.do(move)
    return other


def ends(program, kind, most):
    machines = [Machine(program, kind)]
    known = {stand_of(machines[0]): True}
    found = []
    place = 0
    while place < len(machines) and len(machines) <= most:
        machine = machines[place]
        if machine.ended():
            found.append(end_of(machine))
        for move in machine.moves():
            other = behind_move(machine, move)
            stand = stand_of(other)
            if stand not in known:
                known[stand] = True
                machines.append(other)
        place += 1
    return ("more",) if len(machines) > most else ("ends", sorted(found))
