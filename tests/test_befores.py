import random
import unittest

from helper import KINDS, check_first_waiting, make, refused_waiting, run, some_program, stand
from traylate.befores import before
from traylate.machines import Machine


def told(program, moves, kind="row"):
    machine = Machine(program, kind)
    make(machine, moves)
    return before(machine)


def plain_befores(machine):
    """The tuples of [19], each pair of deeds asked by itself for each reason."""
    deeds = machine.deeds()
    numbers = range(len(deeds))
    found = []
    for one in numbers:
        for other in numbers:
            name = deeds[one][2]
            came = machine.over(name)
            if deeds[one][1] == deeds[other][1] and one < other:
                if not any(deeds[between][1] == deeds[one][1] for between in range(one + 1, other)):
                    found.append((one, other, "own"))
            if deeds[other][0] != "set" and deeds[other][5] == one:
                found.append((one, other, "seen"))
            if one in came and other in came and came.index(other) == came.index(one) + 1:
                found.append((one, other, "over"))
            if deeds[one][0] != "set" and other in came and other != one:
                first = deeds[one][5] is None
                if came.index(other) == (0 if first else came.index(deeds[one][5]) + 1):
                    found.append((one, other, "ahead"))
    return sorted(found, key=lambda told: (told[0], told[1], told[2]))


SET = (("set", 3, 0),)
LOOK = (("look", 0, 3),)
SWAP = (("swap", 0, 3),)


class FewDeedsTest(unittest.TestCase):
    def test_no_deeds(self):
        for kind in KINDS:
            self.assertEqual(told(((),), "", kind), [])
            self.assertEqual(told((SET, LOOK, SWAP), "", kind), [])
            part = (("put", 0, 4), ("add", 0, 0), ("clear",), ("skip", 1, 4))
            self.assertEqual(told((part, part), "d0 d1 d0 d1 d0 d0 d1", kind), [])

    def test_one_deed(self):
        for kind in KINDS:
            self.assertEqual(told((LOOK,), "d0", kind), [])
            self.assertEqual(told((SWAP,), "d0", kind), [])
            self.assertEqual(told((SET,), "d0" if kind == "none" else "d0 c0.3", kind), [])

    def test_deeds_that_nothing_binds(self):
        program = ((("look", 0, 1),), (("set", 2, 0),), SWAP, ())
        self.assertEqual(told(program, "d0 d2 d1 c1.2"), [])
        # Looks at one name, by two clerks, in which nobody comes between.
        self.assertEqual(told((LOOK, LOOK), "d0 d1"), [])

    def test_the_kinds_of_what_is_told(self):
        tuples = told((SET + LOOK, SWAP), "d0 d0 c0.3 d1")
        self.assertIs(type(tuples), list)
        for one in tuples:
            self.assertIs(type(one), tuple)
            self.assertEqual([type(part) for part in one], [int, int, str])


class OwnTest(unittest.TestCase):
    def test_alone(self):
        for kind in KINDS:
            self.assertEqual(told(((("look", 0, 1), ("look", 0, 2)),), "d0 d0", kind), [(0, 1, "own")])
            self.assertEqual(told(((("look", 0, 1), ("swap", 0, 2)),), "d0 d0", kind), [(0, 1, "own")])
            moves = "d0 d0" if kind == "none" else "d0 d0 c0.1 c0.2"
            self.assertEqual(told(((("set", 1, 0), ("set", 2, 0)),), moves, kind), [(0, 1, "own")])

    def test_the_next_deed_alone(self):
        part = (("look", 0, 1), ("look", 0, 2), ("look", 0, 3), ("look", 0, 4))
        self.assertEqual(told((part,), "d0 d0 d0 d0"), [(0, 1, "own"), (1, 2, "own"), (2, 3, "own")])

    def test_over_several_clerks(self):
        part = (("look", 0, 1), ("look", 0, 2), ("look", 0, 3))
        tuples = told((part,) * 4, "d0 d1 d3 d1 d2 d0 d3 d2 d1 d0 d3 d2")
        self.assertEqual(tuples, [
            (0, 5, "own"), (1, 3, "own"), (2, 6, "own"), (3, 8, "own"), (4, 7, "own"), (5, 9, "own"),
            (6, 10, "own"), (7, 11, "own"),
        ])

    def test_other_steps_between(self):
        part = (("look", 0, 1), ("put", 1, 1), ("add", 1, 1), ("clear",), ("skip", 0, 5), ("look", 2, 2))
        for kind in KINDS:
            tuples = told((part, part), "d0 d0 d1 d0 d1 d1 d0 d1 d0 d1 d1 d0", kind)
            self.assertEqual(tuples, [(0, 3, "own"), (1, 2, "own")])

    def test_round_by_a_skip(self):
        part = (("look", 0, 1), ("skip", 0, 0))
        self.assertEqual(told((part,), "d0 d0 d0 d0 d0"), [(0, 1, "own"), (1, 2, "own")])


class SeenTest(unittest.TestCase):
    def test_alone_from_the_board(self):
        for kind in KINDS:
            moves = "d0 d1" if kind == "none" else "d0 c0.3 d1"
            self.assertEqual(told((SET, LOOK), moves, kind), [(0, 1, "seen")])
        self.assertEqual(told((SWAP, LOOK), "d0 d1"), [(0, 1, "seen")])

    def test_several_see_one(self):
        self.assertEqual(told((LOOK, LOOK, SET, LOOK), "d2 c2.3 d3 d0 d1"), [
            (0, 1, "seen"), (0, 2, "seen"), (0, 3, "seen"),
        ])

    def test_from_the_own_tray(self):
        for kind in ["row", "name"]:
            self.assertEqual(told((SET + LOOK,), "d0 d0 c0.3", kind), [(0, 1, "own"), (0, 1, "seen")])
        # The other clerk's came to the board between; the own tray was looked into.
        tuples = told((SET + LOOK, SET), "d0 d1 c1.3 d0 c0.3")
        self.assertEqual(tuples, [(0, 2, "own"), (0, 2, "seen"), (1, 0, "over")])

    def test_of_a_look_and_of_a_swap_from_the_board(self):
        tuples = told((SET, SWAP, LOOK, LOOK), "d0 c0.3 d2 d1 d3")
        self.assertEqual(tuples, [
            (0, 1, "seen"), (0, 2, "over"), (0, 2, "seen"), (1, 2, "ahead"), (2, 3, "seen"),
        ])

    def test_a_swap_behind_its_own_set(self):
        tuples = told((SET + SWAP,), "d0 c0.3 d0")
        self.assertEqual(tuples, [(0, 1, "over"), (0, 1, "own"), (0, 1, "seen")])

    def test_the_same_number_from_another_deed(self):
        # Both clerks set 0: the one that came last was seen.
        tuples = told((SET, SET, LOOK), "d0 d1 c1.3 c0.3 d2")
        self.assertEqual(tuples, [(0, 2, "seen"), (1, 0, "over")])
        tuples = told((SET, SET, LOOK), "d0 d1 c0.3 c1.3 d2")
        self.assertEqual(tuples, [(0, 1, "over"), (1, 2, "seen")])


class OverTest(unittest.TestCase):
    def test_alone(self):
        for kind in ["row", "name"]:
            self.assertEqual(told((SET, SET), "d0 d1 c0.3 c1.3", kind), [(0, 1, "over")])
            self.assertEqual(told((SET, SET), "d0 d1 c1.3 c0.3", kind), [(1, 0, "over")])
        self.assertEqual(told((SET, SET), "d1 d0", "none"), [(0, 1, "over")])

    def test_right_behind_alone(self):
        tuples = told((SET,) * 4, "d0 d1 d2 d3 c2.3 c0.3 c3.3 c1.3")
        self.assertEqual(tuples, [(0, 3, "over"), (2, 0, "over"), (3, 1, "over")])

    def test_of_each_name_by_itself(self):
        part = (("set", 0, 0), ("set", 11, 0))
        row = told((part, part), "d0 d0 d1 d1 c0.0 c1.0 c1.11 c0.11")
        self.assertEqual(row, [(0, 1, "own"), (0, 2, "over"), (2, 3, "own"), (3, 1, "over")])

    def test_by_names(self):
        # With trays of the kind "name" the later set of another name may come first.
        part = (("set", 0, 0), ("set", 11, 0))
        name = told((part, part), "d0 d0 d1 d1 c0.11 c1.0 c1.11 c0.0", "name")
        self.assertEqual(name, [(0, 1, "own"), (1, 3, "over"), (2, 0, "over"), (2, 3, "own")])

    def test_a_swap_comes_ahead_of_what_waits(self):
        for kind in ["row", "name"]:
            self.assertEqual(told((SET, SWAP), "d0 d1 c0.3", kind), [(1, 0, "over")])
        self.assertEqual(told((SET, SWAP), "d0 d1", "none"), [(0, 1, "over"), (0, 1, "seen")])

    def test_of_swaps(self):
        for kind in KINDS:
            tuples = told((SWAP, SWAP, SWAP), "d1 d2 d0", kind)
            self.assertEqual(tuples, [(0, 1, "over"), (0, 1, "seen"), (1, 2, "over"), (1, 2, "seen")])

    def test_with_own_by_itself(self):
        for kind in KINDS:
            moves = "d0 d0" if kind == "none" else "d0 d0 c0.3 c0.3"
            self.assertEqual(told((SET + SET,), moves, kind), [(0, 1, "over"), (0, 1, "own")])


class AheadTest(unittest.TestCase):
    def test_alone_behind_the_first_0(self):
        for kind in KINDS:
            moves = "d1 d0" if kind == "none" else "d1 d0 c0.3"
            self.assertEqual(told((SET, LOOK), moves, kind), [(0, 1, "ahead")])
        # The set was done first, but came later.
        self.assertEqual(told((SET, LOOK), "d0 d1 c0.3"), [(1, 0, "ahead")])

    def test_behind_the_first_0_the_first_that_came(self):
        tuples = told((SET, LOOK, SET), "d0 d1 d2 c2.3 c0.3")
        self.assertEqual(tuples, [(1, 2, "ahead"), (2, 0, "over")])

    def test_of_the_own_name_alone(self):
        tuples = told((SET, (("look", 0, 2),), (("set", 2, 0),)), "d1 d0 d2 c0.3 c2.2")
        self.assertEqual(tuples, [(0, 2, "ahead")])

    def test_behind_a_setting(self):
        tuples = told((SET, SET, SET, LOOK), "d0 d1 d2 c1.3 d3 c2.3 c0.3")
        self.assertEqual(tuples, [(1, 2, "over"), (1, 3, "seen"), (2, 0, "over"), (3, 2, "ahead")])

    def test_behind_the_last_setting_nothing(self):
        self.assertEqual(told((SET, SET, LOOK), "d0 d1 c0.3 c1.3 d2"), [(0, 1, "over"), (1, 2, "seen")])

    def test_of_a_look_into_the_own_tray(self):
        # Deed 0 waits still when it is seen; deed 2 came behind it, deed 1 ahead of it.
        tuples = told((SET + LOOK, SET, SET), "d0 d1 d2 d0 c1.3 c0.3 c2.3")
        self.assertEqual(tuples, [
            (0, 2, "over"), (0, 3, "own"), (0, 3, "seen"), (1, 0, "over"), (3, 2, "ahead"),
        ])

    def test_the_own_set_behind_the_look(self):
        for kind in KINDS:
            moves = "d0 d0" if kind == "none" else "d0 d0 c0.3"
            self.assertEqual(told((LOOK + SET,), moves, kind), [(0, 1, "ahead"), (0, 1, "own")])

    def test_a_swap_as_the_other(self):
        for kind in KINDS:
            self.assertEqual(told((LOOK, SWAP), "d0 d1", kind), [(0, 1, "ahead")])
        self.assertEqual(told((LOOK, SWAP, SWAP), "d1 d0 d2"), [
            (0, 1, "seen"), (0, 2, "over"), (0, 2, "seen"), (1, 2, "ahead"),
        ])

    def test_a_swap_is_not_ahead_of_itself(self):
        for kind in KINDS:
            self.assertEqual(told((SWAP,), "d0", kind), [])
            self.assertEqual(told((SWAP, SWAP), "d0 d1", kind), [(0, 1, "over"), (0, 1, "seen")])
            moves = "d0 d1" if kind == "none" else "d0 c0.3 d1"
            self.assertEqual(told((SET, SWAP), moves, kind), [(0, 1, "over"), (0, 1, "seen")])

    def test_a_set_is_ahead_of_nothing(self):
        self.assertEqual(told((SET, SET), "d0 c0.3 d1 c1.3"), [(0, 1, "over")])

    def test_sets_of_the_same_number_are_told_apart(self):
        tuples = told((SET, SET, LOOK), "d0 c0.3 d2 d1 c1.3")
        self.assertEqual(tuples, [(0, 1, "seen"), (0, 2, "over"), (1, 2, "ahead")])


class SortedTest(unittest.TestCase):
    def test_by_one_then_other_then_why(self):
        part = (("set", 3, 0), ("set", 4, 0), ("look", 0, 3), ("look", 0, 4), ("clear",), ("swap", 0, 3))
        machine = Machine((part, part))
        make(machine, "d0 d1 d0 d1 d0 d1 d0 d1 c1.3 c0.3 c0.4 c1.4 d0 d1 d1 d0")
        tuples = before(machine)
        self.assertEqual(tuples, sorted(tuples, key=lambda told: (told[0], told[1], told[2])))
        self.assertEqual(tuples, plain_befores(machine))
        self.assertEqual([told for told in tuples if told[0] == 0], [
            (0, 2, "own"), (0, 4, "seen"), (0, 8, "over"), (0, 8, "seen"),
        ])

    def test_numbers_of_several_figures_go_by_worth(self):
        part = tuple(("look", 0, place % 12) for place in range(12))
        tuples = told((part,), " ".join(["d0"] * 12))
        self.assertEqual([one for one, other, why in tuples], list(range(11)))


class WaitingTest(unittest.TestCase):
    def refused(self, machine):
        return refused_waiting(self, before, machine)

    def test_the_first_clerk(self):
        check_first_waiting(self, before)

    def test_told_again_once_it_is_carried(self):
        for kind in ["row", "name"]:
            machine = Machine((SET, SET + LOOK), kind)
            make(machine, "d0 d1")
            self.assertEqual(self.refused(machine), 0)
            make(machine, "c0.3")
            self.assertEqual(self.refused(machine), 1)
            make(machine, "c1.3")
            self.assertEqual(before(machine), [(0, 1, "over")])
            make(machine, "d1")
            self.assertEqual(before(machine), [(0, 1, "over"), (1, 2, "own"), (1, 2, "seen")])

    def test_one_of_several_settings_of_a_clerk(self):
        machine = Machine((SET + SET,))
        make(machine, "d0 d0 c0.3")
        self.assertEqual(self.refused(machine), 0)
        make(machine, "c0.3")
        self.assertEqual(before(machine), [(0, 1, "over"), (0, 1, "own")])

    def test_never_with_trays_of_the_kind_none(self):
        machine = Machine((SET, SET), "none")
        make(machine, "d1 d0")
        self.assertEqual(before(machine), [(0, 1, "over")])


class AskedAgainTest(unittest.TestCase):
    def test_after_more_moves(self):
        machine = Machine((SET + LOOK, LOOK + SWAP))
        self.assertEqual(before(machine), [])
        make(machine, "d1")
        self.assertEqual(before(machine), [])
        make(machine, "d0 c0.3")
        self.assertEqual(before(machine), [(0, 1, "ahead")])
        make(machine, "d1")
        self.assertEqual(before(machine), [(0, 1, "ahead"), (0, 2, "own"), (1, 2, "over"), (1, 2, "seen")])
        make(machine, "d0")
        self.assertEqual(before(machine), [
            (0, 1, "ahead"), (0, 2, "own"), (1, 2, "over"), (1, 2, "seen"), (1, 3, "own"), (2, 3, "seen"),
        ])

    def test_the_list_told_is_the_askers_own(self):
        for kind in KINDS:
            machine = Machine((SET + LOOK, LOOK + SWAP), kind)
            make(machine, "d0 d0 d1" if kind == "none" else "d0 d0 c0.3 d1")
            kept = stand(machine)
            tuples = before(machine)
            again = list(tuples)
            tuples.append((7, 8, "own"))
            tuples[0] = None
            tuples.reverse()
            self.assertEqual(before(machine), again)
            self.assertEqual(stand(machine), kept)

    def test_a_list_told_stays_when_moves_are_made(self):
        machine = Machine((SET + LOOK, LOOK + SWAP))
        make(machine, "d0 d0 c0.3")
        tuples = before(machine)
        make(machine, "d1 d1")
        self.assertEqual(tuples, [(0, 1, "own"), (0, 1, "seen")])


class RunsTest(unittest.TestCase):
    def test_as_the_document_goes(self):
        chance = random.Random(19)
        whys = {"own": 0, "seen": 0, "over": 0, "ahead": 0}
        for turn in range(300):
            machine = run(Machine(some_program(chance), KINDS[turn % 3]), chance, 50)
            kept = stand(machine)
            tuples = before(machine)
            self.assertEqual(tuples, plain_befores(machine))
            self.assertEqual(stand(machine), kept)
            for one, other, why in tuples:
                whys[why] += 1
        self.assertGreater(min(whys.values()), 300)

    def test_a_run_of_ten_thousand_moves(self):
        part = (("set", 3, 0), ("look", 1, 5), ("set", 5, 1), ("look", 0, 3), ("skip", 3, 0))
        for kind in KINDS:
            machine = run(Machine((part,) * 4, kind), random.Random(7), 10000)
            tuples = before(machine)
            many = len(machine.deeds())
            self.assertGreater(many, 3000)
            self.assertEqual(len([why for one, other, why in tuples if why == "own"]), many - 4)
            sets = [len(machine.over(name)) for name in [3, 5]]
            self.assertEqual(len([why for one, other, why in tuples if why == "over"]), sum(sets) - 2)
            seen = [(deed[5], number) for number, deed in enumerate(machine.deeds()) if deed[5] is not None]
            self.assertEqual([(one, other) for one, other, why in tuples if why == "seen"], sorted(seen))
            self.assertEqual(tuples, sorted(tuples))


if __name__ == "__main__":
    unittest.main()
