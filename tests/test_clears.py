import copy
import random
import unittest

from helper import (
    BAD_CLERKS, CLEAR, check_refuses_programs, looks_at_fault, some_crossing_program, some_program, some_small_program,
)
from traylate.clears import cleared
from traylate.errors import TrayError
from traylate.machines import Machine
from traylate.papers import fault, marks
from traylate.programs import look_over

# Another clerk that sets all names but 11, and is never at fault itself.
SETTER = tuple(("set", name, 0) for name in range(11))
SET, LOOK, PUT = ("set", 0, 0), ("look", 1, 1), ("put", 0, 1)


def many_steps(program):
    return sum(len(part) for part in program)


def new_places(program, clerk):
    """Of each place of the part, and of its length: where what stood there stands in the cleared one."""
    looks = [place for other, place in looks_at_fault(program) if other == clerk]
    return [place + len([look for look in looks if look <= place]) for place in range(len(program[clerk]) + 1)]


class ClearedCase(unittest.TestCase):
    def check(self, program):
        kept = copy.deepcopy(program)
        told = cleared(program)
        self.assertEqual(program, kept)
        self.assertIs(type(told), tuple)
        self.assertEqual({type(part) for part in told}, {tuple})
        self.assertEqual({type(step) for part in told for step in part} - {tuple}, set())
        self.assertIsNone(look_over(told))
        self.assertEqual(many_steps(told) - many_steps(program), len(looks_at_fault(program)))
        self.assertIsNone(fault(told, marks(told)))
        self.assertEqual(cleared(told), told)
        return told

    def check_part(self, part, expected):
        self.assertEqual(self.check((part, SETTER)), (expected, SETTER))
        self.assertEqual(self.check((SETTER, part)), (SETTER, expected))


class HandMadeTest(ClearedCase):
    def test_looks_past_one_another(self):
        program = ((("set", 0, 0), ("look", 1, 1)), (("set", 1, 0), ("look", 1, 0)))
        self.assertEqual(self.check(program), (
            (("set", 0, 0), CLEAR, ("look", 1, 1)), (("set", 1, 0), CLEAR, ("look", 1, 0)),
        ))

    def test_no_such_look(self):
        programs = [
            ((),), ((), (), (), ()), ((SET, LOOK),), ((LOOK, SET), SETTER), ((SET, ("look", 1, 0)), SETTER),
            ((SET, ("look", 1, 11)), SETTER), ((SET, CLEAR, LOOK), SETTER), ((SET, ("swap", 0, 5), LOOK), SETTER),
            ((SET, ("swap", 0, 1)), SETTER), ((SET, ("skip", 0, 0), ("skip", 1, 3)), SETTER), ((SET, LOOK, ("set", 1, 0)),),
            ((SET, LOOK), (("look", 0, 1),)), ((CLEAR,) * 60, (CLEAR,) * 60),
        ]
        for program in programs:
            with self.subTest(program=program):
                self.assertEqual(self.check(program), program)

    def test_of_a_name_that_another_part_swaps(self):
        swapper = (("swap", 0, 1),)
        self.assertEqual(self.check(((SET, LOOK), swapper)), ((SET, CLEAR, LOOK), swapper))

    def test_two_clears_in_one_part(self):
        # Behind the first clear nothing waits, but what is set behind it does.
        self.check_part((SET, LOOK, SET, ("look", 2, 3)), (SET, CLEAR, LOOK, SET, CLEAR, ("look", 2, 3)))

    def test_a_clear_ahead_of_each_look_at_fault_by_the_first_programs_marks(self):
        # By the marks of the program as it is both are at fault, though one clear would do.
        self.check_part((SET, LOOK, LOOK), (SET, CLEAR, LOOK, CLEAR, LOOK))
        self.check_part((SET, LOOK, ("look", 1, 0), LOOK), (SET, CLEAR, LOOK, ("look", 1, 0), CLEAR, LOOK))

    def test_of_looks_beside_one_another_the_one_at_fault_alone(self):
        # What waits is name 0 alone: a look at it is at no fault, nor one at 11, which no other part sets.
        part = (SET, ("look", 1, 0), ("look", 2, 11), ("look", 3, 5), PUT)
        self.check_part(part, part[:3] + (CLEAR,) + part[3:])

    def test_a_look_at_the_first_place(self):
        self.check_part((LOOK, SET, ("skip", 0, 0)), (CLEAR, LOOK, SET, ("skip", 0, 0)))

    def test_a_skip_to_a_look_that_got_a_clear(self):
        self.check_part((SET, ("skip", 0, 3), PUT, LOOK), (SET, ("skip", 0, 3), PUT, CLEAR, LOOK))
        self.check_part((SET, PUT, LOOK, ("skip", 0, 2)), (SET, PUT, CLEAR, LOOK, ("skip", 0, 2)))

    def test_a_skip_to_another_step(self):
        # Forth past the look, and back to what lies ahead of it, and behind it.
        self.check_part((SET, ("skip", 0, 3), LOOK, PUT), (SET, ("skip", 0, 4), CLEAR, LOOK, PUT))
        self.check_part((SET, LOOK, ("skip", 0, 0)), (SET, CLEAR, LOOK, ("skip", 0, 0)))
        self.check_part((SET, LOOK, PUT, ("skip", 0, 2)), (SET, CLEAR, LOOK, PUT, ("skip", 0, 3)))

    def test_a_skip_to_its_own_place_and_to_the_next(self):
        self.check_part((SET, LOOK, ("skip", 0, 2)), (SET, CLEAR, LOOK, ("skip", 0, 3)))
        self.check_part((SET, LOOK, ("skip", 0, 3)), (SET, CLEAR, LOOK, ("skip", 0, 4)))
        self.check_part((SET, ("skip", 0, 2), LOOK), (SET, ("skip", 0, 2), CLEAR, LOOK))

    def test_a_skip_to_the_parts_length(self):
        self.check_part((SET, ("skip", 0, 4), LOOK, PUT), (SET, ("skip", 0, 5), CLEAR, LOOK, PUT))
        self.check_part((SET, ("skip", 0, 4), LOOK, LOOK), (SET, ("skip", 0, 6), CLEAR, LOOK, CLEAR, LOOK))

    def test_skips_over_several_clears(self):
        part = (SET, LOOK, LOOK, ("skip", 2, 1), ("skip", 2, 2), ("skip", 2, 3), LOOK, ("skip", 2, 6), ("skip", 2, 9), PUT)
        self.check_part(part, (
            SET, CLEAR, LOOK, CLEAR, LOOK, ("skip", 2, 1), ("skip", 2, 3), ("skip", 2, 5), CLEAR, LOOK, ("skip", 2, 8),
            ("skip", 2, 12), PUT,
        ))

    def test_the_clears_of_one_part_move_no_skip_of_another(self):
        other = (("skip", 0, 2), ("set", 1, 0), ("skip", 0, 3))
        self.assertEqual(self.check(((SET, LOOK, LOOK), other)), ((SET, CLEAR, LOOK, CLEAR, LOOK), other))

    def test_a_clear_that_the_program_has_stays(self):
        self.check_part((SET, CLEAR, SET, LOOK, CLEAR), (SET, CLEAR, SET, CLEAR, LOOK, CLEAR))
        # A skip past the program's own clear: the look gets another.
        self.check_part((SET, ("skip", 0, 3), CLEAR, LOOK), (SET, ("skip", 0, 3), CLEAR, CLEAR, LOOK))

    def test_parts_of_sixty_steps_all_looks_at_fault(self):
        self.assertEqual(self.check(((SET,) + (LOOK,) * 59, SETTER))[0], (SET,) + (CLEAR, LOOK) * 59)
        # Nothing waits where nothing is set.
        self.assertEqual(self.check(((LOOK,) * 60, SETTER))[0], (LOOK,) * 60)
        # Set last, it waits behind the skip back.
        part = (LOOK,) * 58 + (SET, ("skip", 3, 0))
        self.assertEqual(self.check((part, SETTER))[0], (CLEAR, LOOK) * 58 + (SET, ("skip", 3, 0)))

    def test_four_parts_of_sixty_steps(self):
        parts = []
        for clerk in range(4):
            parts.append((("set", clerk, 0),) + (("look", 1, (clerk + 1) % 4),) * 58 + (("skip", 3, 60),))
        told = self.check(tuple(parts))
        self.assertEqual([len(part) for part in told], [118] * 4)
        self.assertEqual([part[-1] for part in told], [("skip", 3, 118)] * 4)

    def test_a_skip_back_to_the_first_of_many_looks(self):
        part = (SET,) + (LOOK,) * 58 + (("skip", 3, 1),)
        told = self.check((part, SETTER))
        self.assertEqual(told[0], (SET,) + (CLEAR, LOOK) * 58 + (("skip", 3, 1),))

    def test_a_part_beyond_sixty_steps_is_not_refused(self):
        part = (PUT,) * 60 + (SET, LOOK)
        self.assertEqual(self.check((part, SETTER)), (part[:-1] + (CLEAR, LOOK), SETTER))


class RefusedTest(ClearedCase):
    def test_as_the_looking_over(self):
        check_refuses_programs(self, cleared)

    def test_what_is_refused_stays(self):
        for bad in BAD_CLERKS + [((["clear"],),), ([CLEAR],)]:
            kept = copy.deepcopy(bad)
            with self.assertRaises(TrayError):
                cleared(bad)
            self.assertEqual(bad, kept)


class ChanceTest(ClearedCase):
    def programs(self, turns):
        chance = random.Random(30)
        makers = [some_program, some_crossing_program, some_small_program]
        for turn in range(turns):
            yield makers[turn % 3](chance), chance

    def test_as_the_document_goes(self):
        many = 0
        for program, chance in self.programs(900):
            told = self.check(program)
            faults = looks_at_fault(program)
            many += bool(faults)
            for clerk, part in enumerate(program):
                places = new_places(program, clerk)
                self.assertEqual(len(told[clerk]), places[-1])
                rest = list(told[clerk])
                for place, step in enumerate(part):
                    if (clerk, place) in faults:
                        self.assertEqual(told[clerk][places[place] - 1], CLEAR)
                        rest[places[place] - 1] = None
                    if step[0] == "skip":
                        ahead = (clerk, step[2]) in faults
                        step = step[:2] + (places[step[2]] - ahead,)
                    self.assertEqual(told[clerk][places[place]], step)
                    rest[places[place]] = None
                self.assertEqual(rest, [None] * len(rest))
            if not faults:
                self.assertEqual(told, program)
        self.assertGreater(many, 200)

    def check_alike(self, machine, plain):
        self.assertEqual(plain.deeds(), machine.deeds())
        self.assertEqual(plain.board(), machine.board())
        for clerk in range(len(plain.program)):
            self.assertEqual(plain.registers(clerk), machine.registers(clerk))

    def test_on_a_plain_board_it_does_what_the_first_one_does(self):
        left_out = 0
        for program, chance in self.programs(450):
            told = cleared(program)
            machine, plain = Machine(told, "none"), Machine(program, "none")
            places = [new_places(program, clerk) for clerk in range(len(program))]
            for made in range(60):
                moves = machine.moves()
                if not moves:
                    break
                clerk = chance.choice(moves)[1]
                if machine.where(clerk) in places[clerk]:
                    self.assertEqual(places[clerk][plain.where(clerk)], machine.where(clerk))
                    plain.do(("do", clerk))
                else:
                    self.assertEqual(told[clerk][machine.where(clerk)], CLEAR)
                    left_out += 1
                machine.do(("do", clerk))
                self.check_alike(machine, plain)
            self.assertEqual(machine.ended(), all(plain.where(c) == len(part) for c, part in enumerate(program)))
        self.assertGreater(left_out, 300)

    def test_each_run_of_the_first_one_is_one_of_the_cleared(self):
        for program, chance in self.programs(450):
            told = cleared(program)
            machine, plain = Machine(told, "none"), Machine(program, "none")
            places = [new_places(program, clerk) for clerk in range(len(program))]
            for made in range(60):
                moves = plain.moves()
                if not moves:
                    break
                move = chance.choice(moves)
                if machine.where(move[1]) not in places[move[1]]:
                    machine.do(move)
                machine.do(move)
                plain.do(move)
                self.check_alike(machine, plain)


if __name__ == "__main__":
    unittest.main()
