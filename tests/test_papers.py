import copy
import random
import unittest

from helper import CLEAR, names_in, plain_fault, plain_faults, plain_marks, some_crossing_program, some_program
from traylate.papers import fault

# Clerk 0 sets name 1, clerk 1 sets name 0 and swaps name 2: names that are set elsewhere.
OTHER = (("set", 0, 0), ("swap", 0, 2))
CROSSING = ((("set", 0, 0), ("look", 1, 1)), (("set", 1, 0), ("look", 1, 0)))
ALL = (1 << 12) - 1


def as_lists(paper):
    return [list(row) for row in paper]


class FaultCase(unittest.TestCase):
    def check(self, program, paper, expected, kind="row"):
        kept = copy.deepcopy(paper)
        told = fault(program, paper, kind)
        self.assertEqual(told, expected)
        self.assertEqual(paper, kept)
        if told is not None:
            self.assertIs(type(told), tuple)
            self.assertEqual([type(part) for part in told], [str] + [int] * (len(told) - 1))


class SizeTest(FaultCase):
    PROGRAM = ((("put", 0, 1), CLEAR), (), (CLEAR,))
    PAPER = ((0, 0, 0), (0,), (0, 0))

    def check_size(self, paper):
        for kind in ["row", "name"]:
            self.check(self.PROGRAM, paper, ("size",), kind)
        self.assertEqual(fault(self.PROGRAM, paper), ("size",))

    def test_no_fault(self):
        for kind in ["row", "name"]:
            self.check(self.PROGRAM, self.PAPER, None, kind)

    def test_lists_and_tuples_and_both_mixed(self):
        papers = [
            as_lists(self.PAPER), tuple(as_lists(self.PAPER)), list(self.PAPER), ([0, 0, 0], (0,), [0, 0]),
            [(0, 0, 0), [0], (0, 0)],
        ]
        for paper in papers:
            with self.subTest(paper=paper):
                self.check(self.PROGRAM, paper, None)
                self.check(self.PROGRAM, paper, None, "name")

    def test_a_list_is_looked_at_as_a_tuple(self):
        self.check(CROSSING, [[0, 1, 1], [0, 2, 2]], ("look", 0, 1, 0))
        self.check(CROSSING, [(0, 1, 1), [0, 2, 2]], ("look", 0, 1, 0))
        self.check(CROSSING, ((0, 1, 1), [0, 2, 2]), ("look", 0, 1, 0))

    def test_no_list_or_tuple(self):
        for paper in [None, 0, 7, True, "", "abc", {}, {0: (0, 0, 0), 1: (0,), 2: (0, 0)}, {1, 2, 3}, object, b"abc"]:
            with self.subTest(paper=paper):
                self.check_size(paper)

    def test_clerks_too_few_and_too_many(self):
        papers = [(), [], self.PAPER[:1], self.PAPER[:2], self.PAPER + ((0,),), self.PAPER * 2, as_lists(self.PAPER) * 2]
        for paper in papers:
            with self.subTest(paper=paper):
                self.check_size(paper)
        self.check(((CLEAR,),), (), ("size",))

    def test_a_clerks_row_that_is_no_list_or_tuple(self):
        for place in range(3):
            for bad in [None, 0, 3, True, "", "000", "0", {0: 0}, {0: 0, 1: 0, 2: 0}, {1: 0, 2: 0}, {0}]:
                paper = list(self.PAPER)
                paper[place] = bad
                with self.subTest(paper=paper):
                    self.check_size(paper)
                    self.check_size(tuple(paper))

    def test_a_set_too_few_and_too_many(self):
        for place in range(3):
            for bad in [self.PAPER[place][1:], self.PAPER[place] + (0,), (), (0,) * 9, [], [0] * 7]:
                paper = list(self.PAPER)
                paper[place] = bad
                if bad != self.PAPER[place]:
                    with self.subTest(paper=paper):
                        self.check_size(paper)
                        self.check_size(tuple(paper))

    def test_a_set_that_is_no_set(self):
        bad_sets = [
            True, False, None, "", "0", [], [0], (), (0,), {}, 0.0, -1, -4096, 1 << 12, (1 << 12) + 1, 1 << 13, 1 << 4000,
        ]
        for bad in bad_sets:
            for clerk, place in [(0, 0), (0, 1), (0, 2), (1, 0), (2, 0), (2, 1)]:
                paper = as_lists(self.PAPER)
                paper[clerk][place] = bad
                with self.subTest(paper=paper):
                    self.check_size(paper)
                    self.check_size(tuple(tuple(row) for row in paper))

    def test_the_least_and_the_greatest_set(self):
        self.check(self.PROGRAM, ((ALL, ALL, ALL), (ALL,), (ALL, ALL)), None)
        self.check(self.PROGRAM, ((ALL, ALL, 0), (ALL,), (ALL, 0)), None)

    def test_parts_of_no_steps(self):
        for many in [1, 2, 3, 4]:
            for kind in ["row", "name"]:
                self.check(((),) * many, ((0,),) * many, None, kind)
                self.check(((),) * many, [[ALL]] * many, None, kind)
                self.check(((),) * many, ((),) * many, ("size",), kind)
                self.check(((),) * many, ((0, 0),) * many, ("size",), kind)
                self.check(((),) * many, ((1 << 12,),) * many, ("size",), kind)

    def test_the_size_is_looked_at_ahead_of_all_else(self):
        # The first clerk's look is at fault, and the size of the last one's row is.
        self.check(CROSSING, ((0, 1, 1), (0, 2)), ("size",))
        self.check(CROSSING, ((0, 1, 1), (0, 2, 1 << 12)), ("size",))
        self.check(CROSSING, ((0, 1, 1), (0, 2, True)), ("size",))
        self.check(CROSSING, ((0, 1, 1), (0, 2, 2), (0,)), ("size",))
        self.check(CROSSING, ((0, 0, 0), None), ("size",))


class LookTest(FaultCase):
    def test_of_a_name_that_another_part_sets(self):
        self.check(((("look", 1, 0),), OTHER), ((1 << 5, 1 << 5), (0, 1, 0)), ("look", 0, 0, 5))
        self.check((OTHER, (("look", 1, 0),)), ((0, 1, 0), (1 << 5, 1 << 5)), ("look", 1, 0, 5))

    def test_of_a_name_that_another_part_swaps(self):
        self.check(((("look", 1, 2),), OTHER), ((1 << 5, 1 << 5), (0, 1, 0)), ("look", 0, 0, 5))

    def test_of_a_name_that_another_part_looks_at_alone(self):
        self.check(((("look", 1, 7),), (("look", 0, 7),)), ((1 << 5, 1 << 5), (0, 0)), None)

    def test_of_a_name_that_no_part_sets(self):
        self.check(((("look", 1, 9),), OTHER), ((ALL, ALL), (0, 1, 0)), None)

    def test_of_a_name_that_its_own_part_alone_sets_or_swaps(self):
        for step in [("set", 9, 0), ("swap", 0, 9)]:
            self.check(((("look", 1, 9), step), OTHER), ((ALL, ALL, ALL), (0, 1, 0)), None)
            self.check(((("look", 1, 9), step),), ((ALL, ALL, ALL),), None)

    def test_of_a_name_that_its_own_part_and_another_one_set(self):
        for step in [("set", 0, 0), ("swap", 0, 0)]:
            self.check(((("look", 1, 0), step), OTHER), ((ALL, ALL, ALL), (0, 1, 0)), ("look", 0, 0, 1))

    def test_one_name_in_the_set_of_which_the_look_is(self):
        self.check(((("look", 1, 0),), OTHER), ((1, 1), (0, 1, 0)), None)
        self.check(((("look", 1, 0),), OTHER), ((0, 0), (0, 1, 0)), None)

    def test_the_least_other_name(self):
        for name in [0, 2]:
            for least in range(12):
                names = {least, 11} | {other for other in [4, 7, name] if other >= least}
                number = sum(1 << other for other in names)
                others = sorted(names - {name})
                with self.subTest(name=name, names=names):
                    self.check(((("look", 1, name),), OTHER), ((number, number), (0, 1, 0)), ("look", 0, 0, others[0]))

    def test_by_either_kind(self):
        for kind in ["row", "name"]:
            self.check(((("look", 1, 0),), OTHER), ((2, 2), (0, 1, 0)), ("look", 0, 0, 1), kind)

    def test_a_swap_is_no_look(self):
        self.check(((("swap", 1, 0),), OTHER), ((ALL, 0), (0, 1, 0)), None)

    def test_set_by_clerks_farther_off(self):
        look = (("look", 1, 0),)
        self.check((look, (), (), (("set", 0, 0),)), ((2, 2), (0,), (0,), (0, 1)), ("look", 0, 0, 1))
        self.check(((("set", 0, 0),), (), (), look), ((0, 1), (0,), (0,), (2, 2)), ("look", 3, 0, 1))

    def test_a_set_that_no_way_leads_to_counts(self):
        over = (("put", 0, 0), ("skip", 0, 3), ("set", 0, 0))
        self.check((over, (("look", 1, 0),)), ((0, 0, 0, 1), (2, 2)), ("look", 1, 0, 1))


class SetTest(FaultCase):
    def test_by_the_kind_name_alone(self):
        program = ((("set", 0, 0), ("set", 1, 0)),)
        self.check(program, ((0, 1, 3),), None)
        self.check(program, ((0, 1, 3),), ("set", 0, 1, 0), "name")
        self.assertIsNone(fault(program, ((0, 1, 3),)))
        self.assertEqual(fault(kind="name", paper=((0, 1, 3),), program=program), ("set", 0, 1, 0))

    def test_the_same_name_again(self):
        self.check(((("set", 4, 0), ("set", 4, 1)),), ((0, 16, 16),), None, "name")

    def test_whoever_else_sets_the_name(self):
        for other in [(), (("set", 0, 0),), (("set", 1, 0),)]:
            paper = ((0, 1, 3), (0, 3)[:len(other) + 1])
            self.check(((("set", 0, 0), ("set", 1, 0)), other), paper, ("set", 0, 1, 0), "name")

    def test_the_least_other_name(self):
        for name in range(12):
            others = [other for other in range(12) if other != name]
            for place, least in enumerate(others):
                number = sum(1 << other for other in others[place:]) | 1 << name
                self.check(((("set", name, 0),),), ((number, number),), ("set", 0, 0, least), "name")
                self.check(((("set", name, 0),),), ((number, number),), None)

    def test_a_swap_and_a_clear_between(self):
        for step in [("swap", 1, 5), CLEAR]:
            self.check(((("set", 0, 0), step, ("set", 1, 0)),), ((0, 1, 0, 2),), None, "name")
            self.check(((("set", 0, 0), step, ("set", 1, 0)),), ((0, 1, 1, 3),), ("set", 0, 2, 0), "name")


class OpenTest(FaultCase):
    def test_behind_each_word(self):
        kept = [("put", 0, 1), ("add", 0, 0), ("look", 0, 3), ("skip", 0, 0), ("skip", 0, 1)]
        for step in kept:
            for name in range(12):
                with self.subTest(step=step, name=name):
                    self.check(((step,),), ((1 << name, 0),), ("open", 0, 0, 1))
                    self.check(((step,),), ((1 << name, ALL ^ 1 << name),), ("open", 0, 0, 1))
                    self.check(((step,),), ((1 << name, 1 << name),), None)
                    self.check(((step,),), ((1 << name, ALL),), None)
                    self.check(((step,),), ((0, 0),), None)
        for step in [CLEAR, ("swap", 0, 3)]:
            for name in range(12):
                self.check(((step,),), ((1 << name, 0),), None)
                self.check(((step,),), ((ALL, 1 << name),), None)

    def test_behind_a_set(self):
        program = ((("set", 3, 0),),)
        self.check(program, ((0, 8),), None)
        self.check(program, ((0, 0),), ("open", 0, 0, 1))
        self.check(program, ((0, ALL ^ 8),), ("open", 0, 0, 1))
        self.check(program, ((8, 8),), None)
        self.check(program, ((8, 0),), ("open", 0, 0, 1))
        self.check(program, ((1, 9),), None)
        self.check(program, ((1, 8),), ("open", 0, 0, 1))
        self.check(program, ((1, 1),), ("open", 0, 0, 1))

    def test_behind_a_swap_nothing_must_be_even_the_name_swapped(self):
        self.check(((("swap", 0, 3), ("put", 0, 0)),), ((0, 0, 0),), None)
        self.check(((("set", 3, 0), ("swap", 0, 3)),), ((0, 8, 0),), None)

    def test_each_name_must_be(self):
        self.check(((("put", 0, 0),),), ((7, 6),), ("open", 0, 0, 1))
        self.check(((("put", 0, 0),),), ((7, 5),), ("open", 0, 0, 1))
        self.check(((("put", 0, 0),),), ((7, 3),), ("open", 0, 0, 1))
        self.check(((("put", 0, 0),),), ((7, 7),), None)

    def test_the_first_place_need_not_be_empty(self):
        self.check(((("put", 0, 0),),), ((5, 5),), None)

    def test_the_next_places_rising(self):
        back = (("put", 0, 0), ("put", 0, 0), ("skip", 0, 0), ("put", 0, 0))
        self.check((back,), ((1, 1, 1, 1, 1),), None)
        self.check((back,), ((0, 0, 1, 0, 1),), ("open", 0, 2, 0))
        self.check((back,), ((1, 1, 1, 0, 1),), ("open", 0, 2, 3))
        forth = (("skip", 0, 3), ("put", 0, 0), ("put", 0, 0))
        self.check((forth,), ((1, 0, 0, 0),), ("open", 0, 0, 1))
        self.check((forth,), ((1, 1, 1, 0),), ("open", 0, 0, 3))
        self.check((forth,), ((1, 1, 1, 1),), None)

    def test_a_skip_to_its_own_place(self):
        self.check(((("put", 0, 0), ("skip", 0, 1)),), ((0, 1, 1),), None)
        self.check(((("put", 0, 0), ("skip", 0, 1)),), ((0, 1, 0),), ("open", 0, 1, 2))

    def test_a_skip_to_the_next_place(self):
        self.check(((("skip", 0, 1), ("put", 0, 0)),), ((1, 1, 1),), None)
        self.check(((("skip", 0, 1), ("put", 0, 0)),), ((1, 0, 1),), ("open", 0, 0, 1))

    def test_a_skip_to_the_parts_length(self):
        part = (("skip", 0, 3), CLEAR, CLEAR)
        self.check((part,), ((1, 1, 0, 1),), None)
        self.check((part,), ((1, 1, 0, 0),), ("open", 0, 0, 3))

    def test_behind_a_step_that_no_way_leads_to(self):
        part = (("put", 0, 0), ("skip", 0, 3), ("set", 5, 0))
        self.check((part,), ((0, 0, 0, 32),), None)
        self.check((part,), ((0, 0, 0, 0),), ("open", 0, 2, 3))

    def test_the_kind_changes_nothing_of_it(self):
        self.check(((("set", 3, 0),),), ((0, 0),), ("open", 0, 0, 1), "name")

    def test_each_clerk_for_itself(self):
        self.check(((("set", 3, 0),), (("put", 0, 0),)), ((0, 8), (0, 0)), None)
        self.check(((("put", 0, 0),), (("set", 3, 0),)), ((0, 0), (0, 0)), ("open", 1, 0, 1))


class FirstFaultTest(FaultCase):
    def test_a_look_ahead_of_what_is_open_behind_it(self):
        program = ((("look", 1, 0),), OTHER)
        self.check(program, ((2, 0), (0, 1, 0)), ("look", 0, 0, 1))
        self.check(program, ((1, 0), (0, 1, 0)), ("open", 0, 0, 1))

    def test_a_set_ahead_of_what_is_open_behind_it(self):
        program = ((("set", 1, 0),),)
        self.check(program, ((1, 0),), ("set", 0, 0, 0), "name")
        self.check(program, ((1, 0),), ("open", 0, 0, 1))

    def test_by_place(self):
        program = ((("put", 0, 0), ("look", 1, 0), ("set", 4, 0)), OTHER)
        self.check(program, ((2, 0, 2, 0), (0, 1, 0)), ("open", 0, 0, 1))
        self.check(program, ((2, 2, 2, 0), (0, 1, 0)), ("look", 0, 1, 1))
        self.check(program, ((0, 0, 2, 0), (0, 1, 0)), ("open", 0, 2, 3))
        self.check(program, ((0, 0, 2, 0), (0, 1, 0)), ("set", 0, 2, 1), "name")

    def test_by_clerk_ahead_of_place(self):
        self.check(CROSSING, ((0, 1, 1), (0, 0, 0)), ("look", 0, 1, 0))
        self.check(CROSSING, ((0, 0, 0), (2, 2, 2)), ("open", 0, 0, 1))
        self.check(((), CROSSING[0], CROSSING[1]), ((0,), (0, 1, 1), (1, 3, 3)), ("look", 1, 1, 0))

    def test_held_against_all_faults_counted_out(self):
        chance = random.Random(25)
        found = {}
        for turn in range(1500):
            program = [some_program, some_crossing_program][turn % 2](chance)
            paper = [list(row) for row in plain_marks(program)]
            for change in range(chance.randrange(4)):
                row = chance.choice(paper)
                place = chance.randrange(len(row))
                turned, fewer = row[place] ^ 1 << chance.randrange(12), row[place] & chance.randrange(1 << 12)
                row[place] = chance.choice([turned, fewer, 0])
            kind = ["row", "name"][turn // 2 % 2]
            expected = plain_fault(program, paper, kind)
            self.check(program, paper, expected, kind)
            self.assertEqual(fault(program, tuple(tuple(row) for row in paper), kind), expected)
            several = len(plain_faults(program, paper, kind)) > 1
            word = None if expected is None else expected[0]
            found[(word, several)] = found.get((word, several), 0) + 1
        wanted = [(None, False)] + [(word, several) for word in ["look", "set", "open"] for several in [False, True]]
        self.assertEqual(set(found), set(wanted))
        self.assertGreater(min(found.values()), 15)


class HandedInTest(FaultCase):
    def test_a_paper_changed_behind_the_call(self):
        paper = [[0, 1, 1], [0, 2, 2]]
        told = fault(CROSSING, paper)
        paper[0][1] = 0
        paper[1].append(5)
        self.assertEqual(told, ("look", 0, 1, 0))
        self.assertEqual(fault(CROSSING, paper), ("size",))
        paper[1].pop()
        self.assertEqual(fault(CROSSING, paper), ("open", 0, 0, 1))

    def test_told_the_same_each_time(self):
        for paper in [((0, 1, 1), (0, 2, 2)), ((0, 0, 0), (0, 0, 0)), (), ((0, 1, 1),)]:
            self.assertEqual(fault(CROSSING, paper), fault(CROSSING, paper))

    def test_four_parts_of_120_steps(self):
        part = tuple(("set", place % 12, 0) if place % 2 else ("look", 0, place % 12) for place in range(120))
        program = (part,) * 4
        paper = plain_marks(program)
        self.assertEqual(names_in(paper[3][120]), {1, 3, 5, 7, 9, 11})
        self.check(program, paper, None)
        last = (("put", 0, 0),) * 119 + (("look", 0, 1),)
        self.check(program[:3] + (last,), paper[:3] + ((1,) * 121,), ("look", 3, 119, 0))


if __name__ == "__main__":
    unittest.main()
