import random
import unittest

from helper import (
    CLEAR, looks_at_fault, make, names_in, plain_fault, plain_marks, run, some_crossing_program, some_program,
)
from traylate.befores import before
from traylate.clears import cleared
from traylate.machines import Machine
from traylate.orders import order
from traylate.papers import fault, marks
from traylate.plains import replay

CROSSING = ((("set", 0, 0), ("look", 1, 1)), (("set", 1, 0), ("look", 1, 0)))


def without_fault(program, kind):
    """A program made of this one by clears ahead of what is at fault, or None where it gets too long."""
    found = plain_fault(program, plain_marks(program), kind)
    while found is not None and len(program[found[1]]) < 60:
        word, clerk, place, name = found
        part = program[clerk][:place] + (CLEAR,) + program[clerk][place:]
        program = program[:clerk] + (part,) + program[clerk + 1:]
        found = plain_fault(program, plain_marks(program), kind)
    return program if found is None else None


def followed(machine, chance, most):
    """Makes moves by chance, carries seldom; tells of each deed the clerk and the place of the step that did it."""
    makers = []
    for made in range(most):
        moves = machine.moves()
        if not moves:
            break
        dos = [move for move in moves if move[0] == "do"]
        move = chance.choice(dos if dos and chance.randrange(4) else moves)
        many, place = len(machine.deeds()), machine.where(move[1])
        machine.do(move)
        if len(machine.deeds()) > many:
            makers.append((move[1], place))
    machine.settle()
    return makers


def has_ring(many, befores):
    """Whether no row can be counted out of all these deeds."""
    left = set(range(many))
    while left:
        bound = {other for one, other, why in befores if one in left}
        if not left - bound:
            return True
        left &= bound
    return False


class RowTest(unittest.TestCase):
    def check_row(self, machine):
        told = order(machine)
        self.assertEqual(told[0], "row")
        plain = replay(machine, told[1])
        self.assertEqual(plain.board(), machine.board())
        for clerk in range(len(machine.program)):
            self.assertEqual(plain.registers(clerk), machine.registers(clerk))
            self.assertEqual(plain.where(clerk), machine.where(clerk))

    def test_runs_of_programs_without_fault(self):
        chance = random.Random(28)
        many = {"row": 0, "name": 0}
        for turn in range(400):
            kind = ["row", "name"][turn % 2]
            maker = [some_program, some_crossing_program, some_crossing_program][turn % 3]
            program = without_fault(maker(chance), kind)
            if program is None:
                continue
            many[kind] += 1
            self.assertIsNone(fault(program, marks(program), kind))
            for again in range(3):
                self.check_row(run(Machine(program, kind), chance, 60))
        self.assertGreater(min(many.values()), 100)

    def test_runs_of_cleared_programs(self):
        chance = random.Random(29)
        rings = 0
        for turn in range(200):
            program = some_crossing_program(chance)
            rings += order(run(Machine(program), chance, 60))[0] == "ring"
            self.check_row(run(Machine(cleared(program)), chance, 80))
        self.assertGreater(rings, 30)

    def test_a_paper_of_another_hand(self):
        # Clerk 0's look has a name in its set that never waits there, its own name; clerk 1's has none.
        program = ((("set", 0, 0), CLEAR, ("look", 1, 1)), (("set", 1, 0), ("swap", 2, 3), ("look", 1, 0)))
        paper = [[7, 7, 2, 2], [0, 2 + 16, 0, 64]]
        self.assertIsNone(fault(program, paper))
        chance = random.Random(30)
        for turn in range(60):
            self.check_row(run(Machine(program), chance, 20))

    def test_long_runs(self):
        program = cleared(tuple(part + (("skip", 3, 0),) for part in CROSSING + CROSSING))
        machine = run(Machine(program), random.Random(31), 10000)
        self.assertGreater(len(machine.deeds()), 3000)
        self.check_row(machine)

    def test_by_row_without_fault_there_may_be_a_ring_by_name(self):
        # The letter and its flag, each set by clerk 0: by names the flag may come first.
        program = ((("put", 0, 1), ("set", 0, 0), ("set", 1, 0)), (("look", 0, 1), ("look", 1, 0)))
        self.assertIsNone(fault(program, marks(program)))
        self.assertEqual(fault(program, marks(program), "name"), ("set", 0, 2, 0))
        machine = Machine(program, "name")
        make(machine, "d0 d0 d0 c0.1 d1 d1 c0.0")
        self.assertEqual(order(machine)[0], "ring")


class RingTest(unittest.TestCase):
    def test_each_ring_has_a_look_at_fault(self):
        chance = random.Random(32)
        rings = 0
        for turn in range(500):
            program = [some_program, some_crossing_program, some_crossing_program][turn % 3](chance)
            machine = Machine(program)
            makers = followed(machine, chance, 60)
            faults = looks_at_fault(program)
            befores = before(machine)
            told = order(machine)
            self.assertEqual(has_ring(len(makers), befores), told[0] == "ring")
            if told[0] == "ring":
                rings += 1
                aheads = [makers[deed] for deed, why in told[1] if why == "ahead" and machine.deeds()[deed][0] == "look"]
                self.assertTrue(set(aheads) & set(faults))
            # Without what is ahead of something by such a look no ring is left: so each ring has one.
            rest = [(one, other, why) for one, other, why in befores if why != "ahead" or makers[one] not in faults]
            self.assertFalse(has_ring(len(makers), rest))
        self.assertGreater(rings, 60)

    def test_looks_past_one_another(self):
        machine = Machine(CROSSING)
        make(machine, "d0 d0 d1 d1 c0.0 c1.1")
        self.assertEqual(set(order(machine)[1]), {(0, "own"), (1, "ahead"), (2, "own"), (3, "ahead")})
        self.assertEqual(looks_at_fault(CROSSING), [(0, 1), (1, 1)])


class WaitingTest(unittest.TestCase):
    def test_what_waits_is_in_the_marks_set_of_the_place(self):
        chance = random.Random(33)
        waits = 0
        for turn in range(300):
            program = [some_program, some_crossing_program][turn % 2](chance)
            machine = Machine(program, ["row", "name", "none"][turn % 3])
            paper = marks(program)
            for made in range(50):
                for clerk, row in enumerate(paper):
                    names = {name for name, number in machine.waiting(clerk)}
                    self.assertEqual(names - names_in(row[machine.where(clerk)]), set())
                    waits += bool(names)
                moves = machine.moves()
                if not moves:
                    break
                dos = [move for move in moves if move[0] == "do"]
                machine.do(chance.choice(dos if dos and chance.randrange(3) else moves))
        self.assertGreater(waits, 3000)

    def test_each_name_of_the_marks_may_wait_where_all_ways_are_open(self):
        # A register that the clerk looked up has 0 or not, as the other clerk sets it: so both ways are taken.
        program = ((("set", 3, 0), ("look", 1, 0), ("skip", 1, 4), CLEAR, ("set", 4, 0)), (("put", 0, 1), ("set", 0, 0)))
        paper = marks(program)
        self.assertEqual(paper[0], (0, 8, 8, 8, 8, 24))
        found = [set() for names in paper[0]]
        for moves in ["d0 d0 d0 d0", "d1 d1 c1.0 d0 d0 d0 c0.3 d0 d0"]:
            machine = Machine(program)
            for word in moves.split():
                make(machine, word)
                found[machine.where(0)] |= {name for name, number in machine.waiting(0)}
        self.assertEqual(found, [names_in(names) for names in paper[0]])


if __name__ == "__main__":
    unittest.main()
