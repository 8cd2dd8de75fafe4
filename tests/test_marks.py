import random
import unittest

from helper import (
    CLEAR, looks_at_fault, names_in, plain_fault, plain_faults, plain_marks, some_crossing_program, some_program,
)
from traylate.papers import fault, marks


def grown(paper, chance):
    """A paper with at least the same names, and some more."""
    return [[names | 1 << chance.randrange(12) if chance.randrange(6) == 0 else names for names in row] for row in paper]


def some_way_program(chance):
    """Many skips, forth and back, so that there are places that no way leads to, and few clears and swaps."""
    parts = []
    for clerk in range(chance.randrange(1, 4)):
        length = chance.randrange(1, 16)
        steps = []
        for place in range(length):
            name, reg = chance.randrange(12), chance.randrange(4)
            steps.append(chance.choice([
                ("set", name, reg), ("set", name, reg), ("look", reg, name), ("put", reg, 1), ("add", reg, 0), CLEAR,
                ("swap", reg, name),
            ] + [("skip", reg, chance.randrange(length + 1))] * 2))
        parts.append(tuple(steps))
    return tuple(parts)


class MarksCase(unittest.TestCase):
    def check(self, program):
        told = marks(program)
        self.assertIs(type(told), tuple)
        self.assertEqual(len(told), len(program))
        for part, row in zip(program, told):
            self.assertIs(type(row), tuple)
            self.assertEqual(len(row), len(part) + 1)
            for names in row:
                self.assertIs(type(names), int)
        self.assertEqual(marks(program), told)
        return told

    def check_one(self, part, *expected):
        self.assertEqual(self.check((part,)), (expected,))
        # What the others do changes nothing of it.
        self.assertEqual(self.check((part, ())), (expected, (0,)))
        self.assertEqual(self.check(((("set", 9, 0),), part)), ((0, 512), expected))


class HandMadeTest(MarksCase):
    def test_parts_of_no_steps(self):
        for many in [1, 2, 3, 4]:
            self.assertEqual(self.check(((),) * many), ((0,),) * many)

    def test_a_set_alone(self):
        for name in range(12):
            self.check_one((("set", name, 0),), 0, 1 << name)

    def test_sets_add_up(self):
        self.check_one((("set", 0, 0), ("set", 5, 1), ("set", 0, 2), ("set", 11, 3)), 0, 1, 33, 33, 33 + 2048)

    def test_steps_that_keep(self):
        for step in [("put", 0, 1), ("add", 0, 1), ("look", 0, 7), ("look", 0, 3), ("skip", 0, 2), ("skip", 0, 1)]:
            self.check_one((("set", 3, 0), step), 0, 8, 8)

    def test_steps_that_empty(self):
        for step in [CLEAR, ("swap", 0, 7), ("swap", 0, 3)]:
            self.check_one((("set", 3, 0), step), 0, 8, 0)
            self.check_one((step, ("set", 3, 0), step, ("set", 4, 0)), 0, 0, 8, 0, 16)

    def test_a_skip_forth(self):
        # From place 1 to 3 past the clear.
        self.check_one((("set", 3, 0), ("skip", 0, 3), CLEAR, ("put", 0, 0)), 0, 8, 8, 8, 8)

    def test_a_skip_back(self):
        self.check_one((("put", 0, 0), ("set", 3, 0), ("skip", 0, 0)), 8, 8, 8, 8)
        self.check_one((("put", 0, 0), ("set", 3, 0), ("skip", 0, 1)), 0, 8, 8, 8)
        self.check_one((("set", 2, 0), ("set", 3, 0), ("skip", 0, 0)), 12, 12, 12, 12)
        self.check_one((CLEAR, ("set", 3, 0), ("skip", 0, 0)), 8, 0, 8, 8)

    def test_a_skip_to_its_own_place(self):
        self.check_one((("set", 3, 0), ("skip", 0, 1), CLEAR), 0, 8, 8, 0)
        self.check_one((("skip", 0, 0),), 0, 0)

    def test_a_skip_to_the_parts_length(self):
        self.check_one((("set", 3, 0), ("skip", 0, 4), CLEAR, ("set", 4, 0)), 0, 8, 8, 0, 24)

    def test_skips_back_from_one_to_the_other(self):
        # Each skip goes one place back, the last one to the last of them: so what is set near the end waits everywhere.
        part = tuple(("skip", 0, max(0, place - 1)) for place in range(118)) + (("set", 6, 0), ("skip", 0, 117))
        self.check_one(part, *[64] * 121)
        # But not where the first of them has a clear ahead of it.
        self.check_one(part[:117] + (CLEAR,) + part[118:], *[0] * 117 + [64, 0, 64, 64])

    def test_skips_forth_and_back_between_two_sets(self):
        part = (("put", 0, 0), ("set", 1, 0), ("skip", 0, 5), CLEAR, ("set", 2, 0), ("skip", 0, 3))
        self.check_one(part, 0, 0, 2, 6, 0, 6, 6)

    def test_a_place_that_no_run_comes_to(self):
        # Register 0 has 0 always: all skips go where they tell.
        self.check_one((("skip", 0, 3), ("put", 1, 1), ("look", 2, 5)), 0, 0, 0, 0)
        self.check_one((("skip", 0, 3), ("set", 5, 1), ("put", 1, 1)), 0, 0, 32, 32)
        self.check_one((("skip", 0, 3), ("put", 1, 1), ("set", 5, 1)), 0, 0, 0, 32)
        self.check_one((("skip", 0, 0), ("set", 5, 1), ("look", 1, 0)), 0, 0, 32, 32)
        self.check_one((("skip", 0, 3), ("set", 5, 1), ("skip", 0, 0)), 32, 32, 32, 32)


class ChanceTest(MarksCase):
    def programs(self, turns):
        chance = random.Random(26)
        makers = [some_program, some_crossing_program, some_way_program]
        for turn in range(turns):
            yield makers[turn % 3](chance), chance

    def test_held_against_a_counting_out_name_by_name(self):
        for program, chance in self.programs(900):
            self.assertEqual(self.check(program), plain_marks(program))

    def test_no_fault_but_look_and_set(self):
        found = {}
        for program, chance in self.programs(900):
            told = marks(program)
            for kind in ["row", "name"]:
                at_fault = fault(program, told, kind)
                self.assertEqual(at_fault, plain_fault(program, told, kind))
                word = None if at_fault is None else at_fault[0]
                found[(word, kind)] = found.get((word, kind), 0) + 1
                words = {each[0] for each in plain_faults(program, told, kind)}
                self.assertEqual(words - {"look", "set"}, set())
        self.assertEqual(set(found), {(None, "row"), (None, "name"), ("look", "row"), ("look", "name"), ("set", "name")})
        self.assertGreater(min(found.values()), 50)

    def test_they_lie_within_each_paper_that_is_not_open(self):
        many = 0
        for program, chance in self.programs(1500):
            paper = grown(marks(program), chance)
            if any(each[0] == "open" for each in plain_faults(program, paper, "row")):
                continue
            many += 1
            for least, row in zip(marks(program), paper):
                for one, other in zip(least, row):
                    self.assertEqual(names_in(one) - names_in(other), set())
        self.assertGreater(many, 50)

    def test_where_some_paper_has_no_fault_they_have_none(self):
        found = {(kind, clean): 0 for kind in ["row", "name"] for clean in [True, False]}
        for program, chance in self.programs(1800):
            for kind in ["row", "name"]:
                even = [[chance.choice([0, 1, 2, 3, 7, 4095])] * (len(part) + 1) for part in program]
                paper = chance.choice([even, grown(marks(program), chance)])
                clean = fault(program, paper, kind) is None
                found[(kind, clean)] += 1
                if clean:
                    self.assertIsNone(fault(program, marks(program), kind))
                    for least, row in zip(marks(program), paper):
                        for one, other in zip(least, row):
                            self.assertEqual(names_in(one) - names_in(other), set())
        self.assertGreater(min(found.values()), 100)

    def test_a_clear_in_the_place_of_a_step_adds_no_name(self):
        for program, chance in self.programs(300):
            clerk = chance.randrange(len(program))
            if program[clerk]:
                place = chance.randrange(len(program[clerk]))
                part = program[clerk][:place] + (CLEAR,) + program[clerk][place + 1:]
                fewer = marks(program[:clerk] + (part,) + program[clerk + 1:])
                for one, other in zip(fewer[clerk], marks(program)[clerk]):
                    self.assertEqual(names_in(one) - names_in(other), set())


class LooksTest(MarksCase):
    def test_looks_past_one_another(self):
        program = ((("set", 0, 0), ("look", 1, 1)), (("set", 1, 0), ("look", 1, 0)))
        self.assertEqual(self.check(program), ((0, 1, 1), (0, 2, 2)))
        self.assertEqual(looks_at_fault(program), [(0, 1), (1, 1)])
        self.assertEqual(fault(program, marks(program)), ("look", 0, 1, 0))

    def test_four_parts_of_120_steps(self):
        part = tuple(("set", place % 12, 0) if place % 2 else ("skip", 0, place // 2) for place in range(120))
        self.assertEqual(self.check((part,) * 4), plain_marks((part,) * 4))


if __name__ == "__main__":
    unittest.main()
