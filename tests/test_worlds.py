import copy
import random
import unittest

from helper import CLEAR, KINDS, TOP, board_with, check_refuses_programs, some_small_program
from traylate.clears import cleared
from traylate.errors import NoClerks, NoKind, NoProgram, TrayError
from traylate.machines import Machine
from traylate.papers import fault, marks
from traylate.worlds import ends

CROSSING = ((("put", 0, 1), ("set", 0, 0), ("look", 0, 1)), (("put", 0, 1), ("set", 1, 0), ("look", 0, 0)))
# The letter and its flag.
LETTER = ((("put", 0, 1), ("set", 0, 0), ("set", 1, 0)), (("look", 0, 1), ("look", 1, 0)))


def told_end(registers, numbers):
    """An end: the registers of each clerk, noughts left out at the end, and the names on the board that have not 0."""
    return (tuple(tuple(regs) + (0,) * (4 - len(regs)) for regs in registers), tuple(board_with(numbers)))


def some_racing_program(chance):
    """Sets and looks of two names alone, by two clerks, each look into a register of its own."""
    parts = []
    for clerk in range(2):
        steps = [("put", 0, clerk + 1)]
        for reg in range(1, 4):
            name = chance.randrange(2)
            steps.append(chance.choice([("set", name, 0), ("look", reg, name)]))
        parts.append(tuple(steps))
    return tuple(parts)


def stand_told(machine):
    clerks = range(len(machine.program))
    return repr([
        [machine.where(clerk) for clerk in clerks], [machine.registers(clerk) for clerk in clerks],
        [machine.waiting(clerk) for clerk in clerks], machine.board(),
    ])


def plain_search(program, kind, most):
    """How many stands there are, more than most or not, and the ends: by twins, deepest first."""
    known, ended, heads = set(), set(), [Machine(program, kind)]
    while heads and len(known) <= most:
        machine = heads.pop()
        if stand_told(machine) in known:
            continue
        known.add(stand_told(machine))
        if machine.ended():
            clerks = range(len(program))
            ended.add((tuple(tuple(machine.registers(clerk)) for clerk in clerks), tuple(machine.board())))
        for move in machine.moves():
            twin = machine.twin()
            twin.do(move)
            heads.append(twin)
    return len(known), sorted(ended)


class EndsCase(unittest.TestCase):
    def check(self, program, kind, most):
        kept = copy.deepcopy(program)
        told = ends(program, kind, most)
        self.assertEqual(program, kept)
        self.assertIs(type(told), tuple)
        if told != ("more",):
            self.assertEqual((len(told), told[0], type(told[1])), (2, "ends", list))
            for end in told[1]:
                self.assertEqual((type(end), len(end)), (tuple, 2))
                self.assertEqual((type(end[0]), len(end[0])), (tuple, len(program)))
                self.assertEqual([(type(regs), len(regs)) for regs in end[0]], [(tuple, 4)] * len(program))
                self.assertEqual((type(end[1]), len(end[1])), (tuple, 12))
                self.assertEqual({type(number) for regs in end[0] + end[1:] for number in regs}, {int})
            self.assertEqual(told[1], sorted(set(told[1])))
        self.assertEqual(ends(program, kind, most), told)
        return told

    def check_stands(self, program, kind, stands, expected):
        """That there are just so many stands, and these ends."""
        for most in [stands, stands + 1, 2000, TOP]:
            self.assertEqual(self.check(program, kind, most), ("ends", expected))
        for most in sorted({stands - 1, stands - 2, 1}):
            if 1 <= most < stands:
                self.assertEqual(self.check(program, kind, most), ("more",))


class HandMadeTest(EndsCase):
    def test_parts_of_no_steps(self):
        for many in [1, 2, 3, 4]:
            for kind in KINDS:
                self.check_stands(((),) * many, kind, 1, [told_end([()] * many, {})])

    def test_one_clerk_and_one_way(self):
        for kind in KINDS:
            self.check_stands(((("put", 2, 7), ("add", 2, 2), CLEAR),), kind, 4, [told_end([(0, 0, 14)], {})])

    def test_a_set_waits_or_not(self):
        part = (("put", 0, 5), ("set", 3, 0))
        for kind, stands in [("row", 4), ("name", 4), ("none", 3)]:
            self.check_stands((part,), kind, stands, [told_end([(5,)], {3: 5})])

    def test_two_sets_wait_in_a_row_or_by_name(self):
        # By name there is one stand more: the one with name 4 on the board and name 3 in the tray.
        part = (("put", 0, 5), ("set", 3, 0), ("set", 4, 0))
        for kind, stands in [("row", 7), ("name", 8), ("none", 4)]:
            self.check_stands((part,), kind, stands, [told_end([(5,)], {3: 5, 4: 5})])

    def test_what_waits_in_another_order_is_another_stand(self):
        # Register 1 is 0 or 1, as the other clerk sets it; then names 3 and 4 are set in either order.
        one = (("look", 1, 0), ("skip", 1, 5), ("set", 3, 2), ("set", 4, 2), ("skip", 2, 7), ("set", 4, 2), ("set", 3, 2))
        one += (("put", 1, 0),)
        other = (("put", 0, 1), ("set", 0, 0))
        for kind in KINDS:
            stands, ended = plain_search((one, other), kind, 2000)
            self.check_stands((one, other), kind, stands, ended)
            self.assertEqual(ended, [told_end([(), (1,)], {0: 1})])

    def test_two_clerks_side_by_side(self):
        for kind in KINDS:
            self.check_stands(((("put", 0, 1),), (("put", 0, 2),)), kind, 4, [told_end([(1,), (2,)], {})])
            self.check_stands(((("put", 0, 1),),) * 4, kind, 16, [told_end([(1,)] * 4, {})])

    def test_several_ends_rising(self):
        program = ((("put", 0, 1), ("set", 5, 0)), (("put", 0, 2), ("set", 5, 0)), (("look", 0, 5),))
        expected = [told_end([(1,), (2,), (got,)], {5: last}) for got in [0, 1, 2] for last in [1, 2]]
        for kind in KINDS:
            self.assertEqual(self.check(program, kind, 2000), ("ends", expected))

    def test_numbers_rise_as_numbers(self):
        # Not as texts: 9 comes ahead of 10.
        program = ((("put", 0, 10), ("set", 5, 0)), (("put", 0, 9), ("set", 5, 0)))
        for kind in KINDS:
            expected = [told_end([(10,), (9,)], {5: 9}), told_end([(10,), (9,)], {5: 10})]
            self.assertEqual(self.check(program, kind, 2000), ("ends", expected))

    def test_looks_past_one_another(self):
        plain = [told_end([(one,), (other,)], {0: 1, 1: 1}) for one, other in [(0, 1), (1, 0), (1, 1)]]
        self.assertEqual(self.check(CROSSING, "none", 2000), ("ends", plain))
        trays = [told_end([(0,), (0,)], {0: 1, 1: 1})] + plain
        self.assertEqual(self.check(CROSSING, "row", 2000), ("ends", trays))
        self.assertEqual(self.check(CROSSING, "name", 2000), ("ends", trays))
        for kind in ["row", "none"]:
            self.assertEqual(self.check(cleared(CROSSING), kind, 2000), ("ends", plain))

    def test_settings_that_pass_one_another(self):
        def found(looks):
            return [told_end([(1,), looked], {0: 1, 1: 1}) for looked in looks]
        rows = found([(0, 0), (0, 1), (1, 1)])
        self.assertEqual(self.check(LETTER, "none", 2000), ("ends", rows))
        self.assertEqual(self.check(LETTER, "row", 2000), ("ends", rows))
        self.assertEqual(self.check(LETTER, "name", 2000), ("ends", found([(0, 0), (0, 1), (1, 0), (1, 1)])))

    def test_swaps(self):
        program = ((("put", 0, 1), ("swap", 0, 7)), (("put", 0, 2), ("swap", 0, 7)))
        for kind in KINDS:
            expected = [told_end([(0,), (1,)], {7: 2}), told_end([(2,), (0,)], {7: 1})]
            self.check_stands(program, kind, 10, expected)

    def test_a_program_that_never_ends(self):
        for kind in KINDS:
            self.check_stands(((("skip", 0, 0),),), kind, 1, [])
            self.check_stands(((("put", 0, 1), ("skip", 1, 0)), ()), kind, 3, [])
            self.check_stands(((("put", 0, 1),), (("skip", 0, 0),)), kind, 2, [])

    def test_a_program_that_ends_or_goes_on_for_ever(self):
        # Waits for the other clerk's number: round and round, till it comes.
        program = ((("look", 0, 5), ("skip", 0, 0)), (("put", 0, 1), ("set", 5, 0)))
        for kind in KINDS:
            self.assertEqual(self.check(program, kind, 100), ("ends", [told_end([(1,), (1,)], {5: 1})]))

    def test_a_tray_that_grows_for_ever(self):
        program = ((("set", 3, 0), ("skip", 0, 0)),)
        for kind in ["row", "name"]:
            for most in [1, 2, 100]:
                self.assertEqual(self.check(program, kind, most), ("more",))
            self.assertEqual(ends(program, kind, 2000), ("more",))
        self.check_stands(program, "none", 2, [])

    def test_a_number_that_grows_for_ever(self):
        program = ((("put", 1, 1), ("add", 0, 1), ("skip", 3, 1)),)
        for kind in KINDS:
            self.assertEqual(self.check(program, kind, 2000), ("more",))

    def test_numbers_that_go_round_at_top(self):
        for kind in KINDS:
            program = ((("put", 0, TOP - 1), ("put", 1, 2), ("add", 0, 1)),)
            self.check_stands(program, kind, 4, [told_end([(1, 2)], {})])
            # 0 and TOP / 2 by turns.
            program = ((("put", 1, TOP // 2), ("add", 0, 1), ("skip", 3, 1)),)
            self.check_stands(program, kind, 5, [])
            # Three quarters and what comes of it: four numbers, at two places.
            program = ((("put", 1, TOP // 4 * 3), ("add", 0, 1), ("skip", 3, 1)),)
            self.check_stands(program, kind, 9, [])

    def test_two_thousand_stands(self):
        # Behind the two puts three places by turns, with another number at each turn.
        for many, stands in [(1, 5), (2, 8), (666, 2000)]:
            program = ((("put", 0, TOP - many), ("put", 1, 1), ("add", 0, 1), ("skip", 0, 5), ("skip", 3, 2)),)
            for kind in KINDS:
                expected = [told_end([(0, 1)], {})]
                self.assertEqual(ends(program, kind, stands), ("ends", expected))
                self.assertEqual(ends(program, kind, stands - 1), ("more",))

    def test_two_thousand_stands_side_by_side(self):
        # Places of four clerks, each for itself: 6 * 6 * 7 * 8, and 9 * 6 * 6 * 6.
        for lengths, stands in [([5, 5, 6, 7], 2016), ([8, 5, 5, 5], 1944)]:
            program = tuple((CLEAR,) * length for length in lengths)
            self.assertEqual(ends(program, "row", stands), ("ends", [told_end([()] * 4, {})]))
            self.assertEqual(ends(program, "name", stands - 1), ("more",))


class RefusedTest(EndsCase):
    def test_as_the_looking_over(self):
        for kind in KINDS + ["", "rows", None]:
            check_refuses_programs(self, lambda program: ends(program, kind, 10))

    def test_no_kind(self):
        for bad in ["", "rows", "Row", "names", "all", None, 0, True, ["row"], ("row",), {}]:
            for program in [((),), CROSSING]:
                with self.assertRaises(NoKind) as caught:
                    ends(program, bad, 10)
                self.assertIs(type(caught.exception), NoKind)

    def test_no_clerks_and_no_program_ahead_of_no_kind(self):
        with self.assertRaises(NoClerks):
            ends((), "rows", 10)
        with self.assertRaises(NoProgram) as caught:
            ends(((CLEAR, None),), "rows", 10)
        self.assertEqual((caught.exception.clerk, caught.exception.place), (0, 1))

    def test_what_is_refused_stays(self):
        for bad in [[[CLEAR]], ([CLEAR],), ((["clear"],),)]:
            kept = copy.deepcopy(bad)
            with self.assertRaises(TrayError):
                ends(bad, "row", 10)
            self.assertEqual(bad, kept)


class ListTest(EndsCase):
    def test_the_list_told_is_the_askers_own(self):
        told = ends(CROSSING, "row", 2000)
        kept = copy.deepcopy(told)
        told[1].reverse()
        told[1].append(None)
        told[1][0] = 7
        self.assertEqual(ends(CROSSING, "row", 2000), kept)
        self.assertEqual(len(kept[1]), 4)


class ChanceTest(EndsCase):
    def programs(self, turns):
        chance = random.Random(31)
        for turn in range(turns):
            yield some_small_program(chance, 3, 4) if turn % 3 else some_small_program(chance, 2, 7)

    def test_held_against_a_plain_search(self):
        found = {"ends": 0, "more": 0, "several": 0}
        for turn, program in enumerate(self.programs(150)):
            kind = KINDS[turn // 3 % 3]
            stands, ended = plain_search(program, kind, 150)
            if stands > 150:
                found["more"] += 1
                self.assertEqual(self.check(program, kind, 150), ("more",))
                continue
            found["ends"] += 1
            found["several"] += len(ended) > 1
            for most in [stands, stands + 1]:
                self.assertEqual(self.check(program, kind, most), ("ends", ended))
            if stands > 1:
                self.assertEqual(self.check(program, kind, stands - 1), ("more",))
                self.assertEqual(self.check(program, kind, 1), ("more",))
        self.assertGreater(min(found.values()), 15)

    def test_ends_with_none_are_some_with_row_and_these_with_name(self):
        chance = random.Random(32)
        found = {"none": 0, "row": 0}
        for turn in range(120):
            program = some_racing_program(chance) if turn % 2 else some_small_program(chance, 2, 6)
            told = {kind: ends(program, kind, 500) for kind in KINDS}
            for one, other in [("none", "row"), ("row", "name")]:
                if told[one][0] == "ends" and told[other][0] == "ends":
                    self.assertEqual(set(told[one][1]) - set(told[other][1]), set())
                    found[one] += told[one] != told[other]
        self.assertGreater(min(found.values()), 0)

    def check_as_without_trays(self, program, kind):
        with_trays, without = ends(program, kind, 600), ends(program, "none", 600)
        if with_trays[0] == "ends" and without[0] == "ends":
            self.assertEqual(with_trays, without)
        return with_trays[0] == "ends" and len(with_trays[1]) > 1

    def test_where_the_marks_have_no_fault_they_are_those_without_trays(self):
        found = {"row": 0, "name": 0}
        for program in self.programs(150):
            for kind in ["row", "name"]:
                if fault(program, marks(program), kind) is None:
                    found[kind] += self.check_as_without_trays(program, kind)
        self.assertGreater(min(found.values()), 15)

    def test_of_a_cleared_program_too(self):
        found = 0
        for program in self.programs(100):
            found += self.check_as_without_trays(cleared(program), "row")
        self.assertGreater(found, 15)


if __name__ == "__main__":
    unittest.main()
