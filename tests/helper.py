"""What several test files need: all that a machine tells, making several moves, and programs and runs by chance."""

from traylate.errors import TrayError, Waiting
from traylate.machines import Machine

KINDS = ["row", "name", "none"]
TOP = 10 ** 60


def stand(machine):
    """All that is told of a machine."""
    clerks = range(len(machine.program))
    return {
        "program": machine.program,
        "kind": machine.kind,
        "moves": machine.moves(),
        "ended": machine.ended(),
        "places": [machine.where(clerk) for clerk in clerks],
        "done": [machine.steps_done(clerk) for clerk in clerks],
        "registers": [machine.registers(clerk) for clerk in clerks],
        "waiting": [machine.waiting(clerk) for clerk in clerks],
        "board": machine.board(),
        "deeds": machine.deeds(),
        "over": [machine.over(name) for name in range(12)],
    }


def make(machine, moves):
    """Makes moves told as a text: d0 is ("do", 0), c0.3 is ("carry", 0, 3)."""
    for word in moves.split():
        numbers = [int(number) for number in word[1:].split(".")]
        machine.do(({"d": "do", "c": "carry"}[word[0]],) + tuple(numbers))


def board_with(numbers):
    """A board of noughts but for the names in the dict."""
    return [numbers.get(name, 0) for name in range(12)]


def some_step(chance, length):
    reg, other, name = chance.randrange(4), chance.randrange(4), chance.choice([0, 1, 2, 11])
    number = chance.choice([0, 0, 1, 2, TOP // 2, TOP - 1])
    return chance.choice([
        ("put", reg, number), ("add", reg, other), ("set", name, reg), ("set", name, reg), ("look", reg, name),
        ("look", reg, name), ("swap", reg, name), ("clear",), ("skip", reg, chance.randrange(length + 1)),
    ])


def some_program(chance):
    parts = []
    for clerk in range(chance.randrange(1, 5)):
        length = chance.randrange(13)
        parts.append(tuple(some_step(chance, length) for place in range(length)))
    return tuple(parts)


def some_crossing_program(chance):
    """Few names, and mostly sets and looks: its clerks come across one another often."""
    words = ["set"] * 6 + ["look"] * 6 + ["put", "add", "swap", "clear"]
    parts = []
    for clerk in range(chance.randrange(1, 5)):
        steps = []
        for place in range(chance.randrange(2, 9)):
            reg, name = chance.randrange(3), chance.randrange(3)
            word = chance.choice(words)
            steps.append({
                "set": ("set", name, reg), "look": ("look", reg, name), "put": ("put", reg, chance.randrange(3)),
                "add": ("add", reg, reg), "swap": ("swap", reg, name), "clear": ("clear",),
            }[word])
        # Register 3 always has 0: so it goes round.
        parts.append(tuple(steps) + (("skip", 3, 0),))
    return tuple(parts)


def run(machine, chance, most):
    """Makes moves by chance, carries seldom, most of them at most, and carries out the trays."""
    for made in range(most):
        moves = machine.moves()
        if not moves:
            break
        dos = [move for move in moves if move[0] == "do"]
        machine.do(chance.choice(dos if dos and chance.randrange(5) else moves))
    machine.settle()
    return machine


def refused_waiting(case, ask, machine):
    """The clerk with whom a question is refused with Waiting; the machine is not changed by it."""
    kept = stand(machine)
    with case.assertRaises(Waiting) as caught:
        ask(machine)
    case.assertIsInstance(caught.exception, TrayError)
    case.assertIs(type(caught.exception.clerk), int)
    case.assertEqual(stand(machine), kept)
    return caught.exception.clerk


def check_first_waiting(case, ask):
    """That the clerk told with Waiting is the first one in whose tray something waits."""
    rows = [("d0", 0), ("d1", 1), ("d3", 3), ("d3 d1", 1), ("d2 d3", 2), ("d3 d2 d1 d0", 0), ("d0 d2 c0.3", 2)]
    for kind in ["row", "name"]:
        for moves, clerk in rows:
            machine = Machine(((("set", 3, 0),),) * 4, kind)
            make(machine, moves)
            case.assertEqual(refused_waiting(case, ask, machine), clerk)
