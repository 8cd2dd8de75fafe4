import copy
import unittest

from traylate.errors import NoClerks, NoProgram
from traylate.programs import look_over, setters

CLEAR = ("clear",)
ALL_WORDS = (
    ("put", 0, 10 ** 60 - 1), ("add", 1, 1), ("set", 11, 3), ("look", 3, 11), ("swap", 0, 0), ("clear",), ("skip", 2, 7),
)
BAD = ("put", 4, 0)


class LookOverTest(unittest.TestCase):
    def good(self, program):
        self.assertIsNone(look_over(program))

    def no_clerks(self, program):
        with self.assertRaises(NoClerks) as caught:
            look_over(program)
        self.assertIs(type(caught.exception), NoClerks)

    def no_program(self, program, clerk, place):
        with self.assertRaises(NoProgram) as caught:
            look_over(program)
        self.assertIs(type(caught.exception), NoProgram)
        self.assertEqual((caught.exception.clerk, caught.exception.place), (clerk, place))

    def test_one_to_four_parts(self):
        for many in [1, 2, 3, 4]:
            with self.subTest(many=many):
                self.good((ALL_WORDS,) * many)
                self.good(((),) * many)
                self.good(((),) * (many - 1) + (ALL_WORDS,))

    def test_a_part_of_120_steps(self):
        self.good(((CLEAR,) * 120,))
        self.good(((CLEAR,) * 119,))
        self.good(((), (CLEAR,), (CLEAR,) * 120, (CLEAR,) * 120))

    def test_a_skip_to_the_parts_length(self):
        self.good(((("skip", 0, 1),),))
        self.good(((("skip", 0, 0),),))
        self.good(((CLEAR, ("skip", 0, 3), CLEAR),))
        self.good(((("skip", 3, 120),) * 120,))
        self.good((((("skip", 0, 5),) * 5), (("skip", 0, 2),) * 2))

    def test_no_tuple(self):
        for bad in [None, 0, True, "", "clerk", [], [()], [(CLEAR,)], {}, {0: ()}, object()]:
            with self.subTest(bad=bad):
                self.no_clerks(bad)

    def test_no_part_and_too_many(self):
        self.no_clerks(())
        self.no_clerks(((),) * 5)
        self.no_clerks((ALL_WORDS,) * 5)
        self.no_clerks(((),) * 6)
        self.no_clerks(((),) * 100)

    def test_a_part_that_is_no_tuple(self):
        for bad in [[], [CLEAR], None, 0, "", "clear", {}]:
            for program in [(bad,), (bad, ()), ((), bad), ((CLEAR,), (), (), bad)]:
                with self.subTest(program=program):
                    self.no_clerks(program)

    def test_a_step_in_the_place_of_a_part(self):
        # It is a tuple, so its parts count as steps, bad ones.
        self.no_program((CLEAR,), 0, 0)
        self.no_program(((), ("put", 0, 0)), 1, 0)

    def test_clerks_are_looked_at_ahead_of_steps(self):
        self.no_clerks(((BAD,), [CLEAR]))
        self.no_clerks(((BAD,),) * 5)
        self.no_clerks([(BAD,)])
        self.no_clerks(((CLEAR,) * 121, None))

    def test_what_is_no_step(self):
        bad_steps = [
            BAD, (), None, 0, "clear", ["clear"], ("clear", 0), ("look", 0, 12), ("set", True, 0),
            ("put", 0, 10 ** 60), ("put", 0, -1), ("put", 0, False), ("skip", 0, 121), ("skip", 0, -1), ("dance",), ([],),
        ]
        for bad in bad_steps:
            with self.subTest(bad=bad):
                self.no_program(((bad,),), 0, 0)
                self.no_program(((CLEAR, CLEAR, bad, CLEAR),), 0, 2)
                self.no_program(((), (CLEAR,), (CLEAR, bad)), 2, 1)
                self.no_program(((), (), (), (CLEAR,) * 119 + (bad,)), 3, 119)

    def test_a_skip_to_above_the_parts_length(self):
        self.no_program(((("skip", 0, 2),),), 0, 0)
        self.no_program(((CLEAR, ("skip", 0, 4), CLEAR),), 0, 1)
        self.no_program(((CLEAR, CLEAR, ("skip", 1, 120)),), 0, 2)
        self.no_program(((("skip", 0, 120),) * 119,), 0, 0)
        self.no_program(((CLEAR,) * 118 + (("skip", 0, 120),),), 0, 118)

    def test_a_skip_is_held_to_its_own_parts_length(self):
        longer = (CLEAR,) * 9
        self.no_program((longer, (("skip", 0, 2),)), 1, 0)
        self.no_program(((("skip", 0, 2),), longer), 0, 0)
        self.good(((("skip", 0, 9),) + longer[1:], ()))

    def test_a_step_at_place_120(self):
        self.no_program(((CLEAR,) * 121,), 0, 120)
        self.no_program(((CLEAR,) * 122,), 0, 120)
        self.no_program(((CLEAR,) * 500,), 0, 120)
        self.no_program(((CLEAR,), (CLEAR,) * 120, (CLEAR,) * 121), 2, 120)
        self.no_program(((CLEAR,) * 120 + (BAD,),), 0, 120)
        self.no_program(((CLEAR,) * 121 + (BAD,),), 0, 120)
        self.no_program(((("skip", 0, 120),) * 130,), 0, 120)

    def test_the_first_of_several_bad_ones_in_one_part(self):
        over = ("skip", 0, 99)
        self.no_program(((CLEAR, BAD, over, BAD),), 0, 1)
        self.no_program(((CLEAR, over, BAD, over),), 0, 1)
        self.no_program(((CLEAR,) * 50 + (BAD,) + (CLEAR,) * 80,), 0, 50)
        self.no_program(((CLEAR,) * 119 + (BAD, BAD, BAD),), 0, 119)

    def test_the_first_of_several_bad_ones_in_several_parts(self):
        over = ("skip", 0, 99)
        self.no_program(((CLEAR, CLEAR, BAD), (BAD,)), 0, 2)
        self.no_program(((CLEAR, CLEAR, over), (BAD,)), 0, 2)
        self.no_program(((CLEAR,) * 121, (BAD,), (over,)), 0, 120)
        self.no_program(((CLEAR,), (), (CLEAR, over), (BAD,)), 2, 1)
        self.no_program(((), (over, BAD), (BAD,), (CLEAR,) * 121), 1, 0)

    def test_nothing_handed_in_is_changed(self):
        programs = [
            (ALL_WORDS, ()), [[CLEAR]], (["clear"], [CLEAR]), ((["clear"], BAD),), ((("put", 0, [1]),), ()),
        ]
        for program in programs:
            kept = copy.deepcopy(program)
            try:
                look_over(program)
            except (NoClerks, NoProgram):
                pass
            with self.subTest(program=kept):
                self.assertEqual(program, kept)


class SettersTest(unittest.TestCase):
    PROGRAM = (
        (("set", 3, 0), CLEAR, ("look", 0, 5)),
        (("look", 1, 3), ("swap", 2, 4)),
        (),
        (("put", 0, 7), ("swap", 0, 3), ("set", 3, 2), ("set", 11, 1)),
    )

    def test_none_one_and_several(self):
        told = {3: [0, 3], 4: [1], 11: [3]}
        for name in range(12):
            with self.subTest(name=name):
                self.assertEqual(setters(self.PROGRAM, name), told.get(name, []))

    def test_every_clerk(self):
        program = ((("set", 0, 1),), (("swap", 1, 0),), (CLEAR, ("set", 0, 0)), (("swap", 3, 0), CLEAR))
        self.assertEqual(setters(program, 0), [0, 1, 2, 3])
        self.assertEqual(setters(program, 1), [])

    def test_by_a_set_and_by_a_swap(self):
        for name in range(12):
            self.assertEqual(setters(((("set", name, 0),),), name), [0])
            self.assertEqual(setters(((), (("swap", 0, name),)), name), [1])

    def test_a_look_alone_is_none(self):
        for name in range(12):
            self.assertEqual(setters(((("look", 0, name),),) * 4, name), [])

    def test_other_parts_of_a_step_are_no_names(self):
        # Registers, numbers and places that happen to be 2 set no name.
        others = (("put", 2, 2), ("add", 2, 2), ("set", 7, 2), ("look", 2, 2), ("swap", 2, 7), ("skip", 2, 2))
        self.assertEqual(setters((others,), 2), [])
        self.assertEqual(setters((others,), 7), [0])

    def test_wherever_it_stands(self):
        # Steps that no way leads to count too: the first skip is always taken.
        program = ((("skip", 0, 3), ("set", 1, 0), CLEAR), (CLEAR,) * 119 + (("swap", 0, 1),))
        self.assertEqual(setters(program, 1), [0, 1])

    def test_a_part_that_sets_twice_counts_once(self):
        program = ((("set", 6, 0), ("set", 6, 1), ("swap", 0, 6)),)
        self.assertEqual(setters(program, 6), [0])

    def test_the_list_is_new_each_time(self):
        first = setters(self.PROGRAM, 3)
        self.assertIs(type(first), list)
        first.append(9)
        first[0] = -1
        self.assertEqual(setters(self.PROGRAM, 3), [0, 3])
        none = setters(self.PROGRAM, 5)
        none.append(1)
        self.assertEqual(setters(self.PROGRAM, 5), [])

    def test_the_program_is_not_changed(self):
        kept = copy.deepcopy(self.PROGRAM)
        setters(self.PROGRAM, 3)
        self.assertEqual(self.PROGRAM, kept)


if __name__ == "__main__":
    unittest.main()
