"""What several test files need: all that a machine tells, and making several moves."""

KINDS = ["row", "name", "none"]


def stand(machine):
    """All that is told of a machine."""
    clerks = range(len(machine.program))
    return {
        "program": machine.program,
        "kind": machine.kind,
        "moves": machine.moves(),
        "ended": machine.ended(),
        "places": [machine.where(clerk) for clerk in clerks],
        "done": [machine.steps_done(clerk) for clerk in clerks],
        "registers": [machine.registers(clerk) for clerk in clerks],
        "waiting": [machine.waiting(clerk) for clerk in clerks],
        "board": machine.board(),
        "deeds": machine.deeds(),
        "over": [machine.over(name) for name in range(12)],
    }


def make(machine, moves):
    """Makes moves told as a text: d0 is ("do", 0), c0.3 is ("carry", 0, 3)."""
    for word in moves.split():
        numbers = [int(number) for number in word[1:].split(".")]
        machine.do(({"d": "do", "c": "carry"}[word[0]],) + tuple(numbers))


def board_with(numbers):
    """A board of noughts but for the names in the dict."""
    return [numbers.get(name, 0) for name in range(12)]
