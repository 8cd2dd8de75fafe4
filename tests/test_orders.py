import random
import unittest

from helper import KINDS, check_first_waiting, make, refused_waiting, run, some_crossing_program, some_program, stand
from traylate.befores import before
from traylate.machines import Machine
from traylate.orders import order

SET = (("set", 3, 0),)
LOOK = (("look", 0, 3),)
SWAP = (("swap", 0, 3),)


def past(many):
    """A program in which each clerk sets its own name and looks at the next one's."""
    return tuple((("put", 0, 1), ("set", clerk, 0), ("look", 1, (clerk + 1) % many)) for clerk in range(many))


def past_moves(many):
    """Moves by which all of them look ahead of the carries."""
    words = [f"d{clerk} d{clerk} d{clerk}" for clerk in range(many)]
    return " ".join(words + [f"c{clerk}.{clerk}" for clerk in range(many)])


# Goes round for ever (register 3 always has 0): as past, for two clerks.
ROUND = ((("set", 0, 0), ("look", 1, 1), ("skip", 3, 0)), (("set", 1, 0), ("look", 1, 0), ("skip", 3, 0)))
ROUND_CLEARED = (
    (("set", 0, 0), ("clear",), ("look", 1, 1), ("skip", 3, 0)),
    (("set", 1, 0), ("clear",), ("look", 1, 0), ("skip", 3, 0)),
)


def plain_row(machine):
    """The row as [21] counts it out, as far as it comes."""
    numbers = range(len(machine.deeds()))
    ahead = {number: [one for one, other, why in before(machine) if other == number] for number in numbers}
    row = []
    while True:
        free = [n for n in numbers if n not in row and all(one in row for one in ahead[n])]
        if not free:
            return row
        row.append(min(free))


class OrderCase(unittest.TestCase):
    def check_row(self, machine, row):
        self.assertIs(type(row), list)
        self.assertEqual(sorted(row), list(range(len(machine.deeds()))))
        places = {number: place for place, number in enumerate(row)}
        for one, other, why in before(machine):
            self.assertLess(places[one], places[other])

    def check_ring(self, machine, pairs):
        self.assertIs(type(pairs), tuple)
        self.assertGreaterEqual(len(pairs), 2)
        for pair in pairs:
            self.assertIs(type(pair), tuple)
            self.assertEqual([type(part) for part in pair], [int, str])
        self.assertEqual(len({deed for deed, why in pairs}), len(pairs))
        tuples = set(before(machine))
        for (deed, why), (following, unused) in zip(pairs, pairs[1:] + pairs[:1]):
            self.assertIn((deed, following, why), tuples)

    def check(self, machine):
        kept = stand(machine)
        told = order(machine)
        self.assertIs(type(told), tuple)
        self.assertEqual(len(told), 2)
        self.assertIn(told[0], ["row", "ring"])
        if told[0] == "row":
            self.check_row(machine, told[1])
        else:
            self.check_ring(machine, told[1])
        self.assertEqual(order(machine), told)
        self.assertEqual(stand(machine), kept)
        return told

    def told(self, program, moves, kind="row"):
        machine = Machine(program, kind)
        make(machine, moves)
        return self.check(machine)


class RowTest(OrderCase):
    def test_no_deeds(self):
        for kind in KINDS:
            self.assertEqual(self.told(((),), "", kind), ("row", []))
            self.assertEqual(self.told((SET, (("put", 0, 1),)), "d1", kind), ("row", []))

    def test_one_deed(self):
        for kind in KINDS:
            self.assertEqual(self.told((LOOK,), "d0", kind), ("row", [0]))
            self.assertEqual(self.told((SWAP,), "d0", kind), ("row", [0]))
            self.assertEqual(self.told((SET,), "d0" if kind == "none" else "d0 c0.3", kind), ("row", [0]))

    def test_deeds_that_nothing_binds_rise(self):
        program = tuple((("look", 0, name),) for name in range(4))
        self.assertEqual(self.told(program, "d3 d1 d0 d2"), ("row", [0, 1, 2, 3]))

    def test_a_look_done_later_stands_ahead_of_the_set(self):
        self.assertEqual(self.told((SET, LOOK), "d0 d1 c0.3"), ("row", [1, 0]))

    def test_settings_stand_as_they_came_to_the_board(self):
        self.assertEqual(self.told((SET,) * 4, "d0 d1 d2 d3 c2.3 c0.3 c3.3 c1.3"), ("row", [2, 0, 3, 1]))

    def test_a_swap_ahead_of_what_waited(self):
        self.assertEqual(self.told((SET, SWAP), "d0 d1 c0.3"), ("row", [1, 0]))

    def test_the_least_that_is_free_stands_next(self):
        # Deed 0 comes to the board last of three; 3 is bound to nothing but must not come ahead of 1 and 2.
        program = (SET, SET, SET, (("look", 0, 7),))
        self.assertEqual(self.told(program, "d0 d1 d2 d3 c2.3 c1.3 c0.3"), ("row", [2, 1, 0, 3]))
        self.assertEqual(self.told(program, "d1 d3 d0 d2 c1.3 c0.3 c2.3"), ("row", [0, 1, 2, 3]))
        self.assertEqual(self.told(program, "d1 d3 d0 d2 c2.3 c0.3 c1.3"), ("row", [1, 3, 2, 0]))

    def test_two_reasons_between_the_same_deeds(self):
        self.assertEqual(self.told((SET + LOOK + SWAP,), "d0 d0 c0.3 d0"), ("row", [0, 1, 2]))

    def test_looks_past_one_another_one_behind_the_carry(self):
        # Clerk 1 looks at name 0 once it is carried: a row, with clerk 0's look ahead of clerk 1's set.
        self.assertEqual(self.told(past(2), "d0 d0 d0 d1 d1 c0.0 d1 c1.1"), ("row", [0, 1, 2, 3]))
        self.assertEqual(self.told(past(2), "d1 d1 d0 d0 d0 c0.0 d1 c1.1"), ("row", [1, 2, 0, 3]))

    def test_always_as_done_with_trays_of_the_kind_none(self):
        chance = random.Random(20)
        for turn in range(100):
            machine = run(Machine(some_program(chance), "none"), chance, 60)
            self.assertEqual(self.check(machine), ("row", list(range(len(machine.deeds())))))


class RingTest(OrderCase):
    def ring(self, program, moves, kind="row"):
        told = self.told(program, moves, kind)
        self.assertEqual(told[0], "ring")
        return told[1]

    def turned(self, pairs):
        """The ring from its least deed on: a ring may begin anywhere."""
        place = pairs.index(min(pairs))
        return pairs[place:] + pairs[:place]

    def test_two_clerks_that_look_ahead_of_the_carries(self):
        for kind in ["row", "name"]:
            pairs = self.ring(past(2), past_moves(2), kind)
            self.assertEqual(self.turned(pairs), ((0, "own"), (1, "ahead"), (2, "own"), (3, "ahead")))

    def test_without_trays_there_is_none(self):
        for moves in ["d0 d0 d1 d1 d0 d1", "d1 d1 d0 d0 d0 d1", "d0 d0 d0 d1 d1 d1"]:
            self.assertEqual(self.told(past(2), moves, "none"), ("row", [0, 1, 2, 3]))

    def test_longer_rings(self):
        for many in [3, 4]:
            for kind in ["row", "name"]:
                pairs = self.ring(past(many), past_moves(many), kind)
                self.assertEqual(len(pairs), 2 * many)
                self.assertEqual({deed for deed, why in pairs}, set(range(2 * many)))
                self.assertEqual([why for deed, why in self.turned(pairs)], ["own", "ahead"] * many)

    def test_settings_that_pass_one_another(self):
        # By names the flag, set last, comes first: seen by the other clerk, which then misses the letter.
        program = ((("put", 0, 1), ("set", 0, 0), ("set", 1, 0)), (("look", 0, 1), ("look", 1, 0)))
        pairs = self.ring(program, "d0 d0 d0 c0.1 d1 d1 c0.0", "name")
        self.assertEqual(self.turned(pairs), ((0, "own"), (1, "seen"), (2, "own"), (3, "ahead")))
        self.assertEqual(self.told(program, "d0 d0 d0 c0.0 d1 d1 c0.1", "name"), ("row", [0, 2, 1, 3]))

    def test_a_ring_of_settings_alone(self):
        # Each clerk sets both names; by names they come crosswise.
        program = ((("set", 0, 0), ("set", 1, 0)), (("set", 1, 0), ("set", 0, 0)))
        pairs = self.ring(program, "d0 d0 d1 d1 c0.1 c1.0 c1.1 c0.0", "name")
        self.assertEqual(self.turned(pairs), ((0, "own"), (1, "over"), (2, "own"), (3, "over")))

    def test_a_ring_amid_deeds_that_are_in_none(self):
        # The looks at name 9 ahead of, behind and beside the ring.
        look = ("look", 2, 9)
        one = (look, ("set", 0, 0), look, ("look", 1, 1), look)
        other = (look, ("set", 1, 0), ("look", 1, 0), look)
        program = (one, other, (look, look))
        pairs = self.ring(program, "d2 d0 d0 d1 d1 d0 d0 d0 d1 d2 d1 c1.1 c0.0")
        self.assertEqual({deed for deed, why in pairs}, {2, 5, 6, 4, 8})
        self.assertEqual(sorted(why for deed, why in pairs), ["ahead", "ahead", "own", "own", "own"])

    def test_the_ring_stays_in_the_run(self):
        machine = Machine(past(2) + (LOOK,))
        make(machine, past_moves(2))
        ring = self.check(machine)
        self.assertEqual(ring[0], "ring")
        make(machine, "d2")
        self.assertEqual(self.check(machine)[0], "ring")

    def test_held_against_a_plain_counting_out(self):
        chance = random.Random(21)
        found = dict.fromkeys([(kind, word) for kind in ["row", "name"] for word in ["row", "ring"]], 0)
        for turn in range(600):
            kind = ["row", "name"][turn % 2]
            program = [some_program, some_crossing_program][turn // 2 % 2](chance)
            machine = run(Machine(program, kind), chance, 60)
            told = self.check(machine)
            found[(kind, told[0])] += 1
            row = plain_row(machine)
            if told[0] == "row":
                self.assertEqual(told[1], row)
            else:
                self.assertLess(len(row), len(machine.deeds()))
                self.assertEqual({deed for deed, why in told[1]} & set(row), set())
        self.assertGreater(min(found.values()), 20)


class SameEachTimeTest(OrderCase):
    def test_a_row_told_and_changed(self):
        machine = Machine((SET, LOOK, SWAP))
        make(machine, "d0 d1 c0.3 d2")
        told = order(machine)
        self.assertEqual(told, ("row", [1, 0, 2]))
        told[1].append(9)
        told[1][0] = None
        told[1].reverse()
        self.assertEqual(order(machine), ("row", [1, 0, 2]))

    def test_a_ring(self):
        machine = Machine(past(4))
        make(machine, past_moves(4))
        told = order(machine)
        self.assertEqual([order(machine) for turn in range(5)], [told] * 5)
        self.assertEqual(order(machine.twin()), told)
        again = Machine(past(4))
        make(again, past_moves(4))
        self.assertEqual(order(again), told)

    def test_a_row_told_stays_when_moves_are_made(self):
        machine = Machine((SET, LOOK))
        make(machine, "d1")
        told = order(machine)
        make(machine, "d0 c0.3")
        self.assertEqual(told, ("row", [0]))
        self.assertEqual(order(machine), ("row", [0, 1]))


class WaitingTest(OrderCase):
    def refused(self, machine):
        return refused_waiting(self, order, machine)

    def test_the_first_clerk(self):
        check_first_waiting(self, order)

    def test_told_again_once_it_is_carried(self):
        machine = Machine(past(2))
        make(machine, "d0 d0 d0 d1 d1 d1")
        self.assertEqual(self.refused(machine), 0)
        make(machine, "c0.0")
        self.assertEqual(self.refused(machine), 1)
        make(machine, "c1.1")
        self.assertEqual(self.check(machine)[0], "ring")

    def test_amid_a_run_that_goes_on(self):
        for kind in KINDS:
            machine = Machine(ROUND, kind)
            chance = random.Random(3)
            for turn in range(40):
                for made in range(chance.randrange(1, 6)):
                    machine.do(chance.choice(machine.moves()))
                first = [clerk for clerk in [0, 1] if machine.waiting(clerk)]
                if first:
                    self.assertEqual(self.refused(machine), first[0])
                    machine.settle()
                self.check(machine)
            self.assertIs(machine.ended(), False)


class LongRunsTest(OrderCase):
    def long_run(self, program, kind):
        return run(Machine(program, kind), random.Random(4), 10000)

    def test_of_ten_thousand_moves_with_a_row(self):
        for program, kind in [(ROUND, "none"), (ROUND_CLEARED, "row"), (ROUND_CLEARED + ROUND_CLEARED[:1] * 2, "row")]:
            machine = self.long_run(program, kind)
            self.assertGreater(len(machine.deeds()), 3000)
            self.assertEqual(self.check(machine)[0], "row")

    def test_of_ten_thousand_moves_with_a_ring(self):
        for program in [ROUND, ROUND + ROUND]:
            for kind in ["row", "name"]:
                machine = self.long_run(program, kind)
                self.assertGreater(len(machine.deeds()), 3000)
                self.assertEqual(self.check(machine)[0], "ring")

    def test_of_ten_thousand_moves_with_a_ring_at_the_end_alone(self):
        crossing = ((("set", 7, 0), ("look", 1, 8)), (("set", 8, 0), ("look", 1, 7)))
        machine = Machine(ROUND_CLEARED + crossing)
        for made in range(9990):
            moves = [move for move in machine.moves() if move[1] < 2]
            machine.do(moves[made * 7 % len(moves)])
        machine.settle()
        self.assertEqual(self.check(machine)[0], "row")
        many = len(machine.deeds())
        make(machine, "d2 d3 d2 d3 c2.7 c3.8")
        told = self.check(machine)
        self.assertEqual(told[0], "ring")
        self.assertEqual(sorted(told[1]), [(many, "own"), (many + 1, "own"), (many + 2, "ahead"), (many + 3, "ahead")])

    def test_of_ten_thousand_deeds_of_one_clerk(self):
        part = (("look", 0, 3),) * 119 + (("skip", 1, 0),)
        machine = self.long_run((part,), "row")
        self.assertEqual(self.check(machine), ("row", list(range(len(machine.deeds())))))

    def test_of_a_tray_that_grows(self):
        # All sets wait to the end; the other clerk's looks, done last, stand ahead of the first one.
        program = ((("set", 3, 0), ("skip", 3, 0)), (("look", 0, 3), ("skip", 3, 0)))
        machine = Machine(program)
        for move in [("do", 0)] * 5000 + [("do", 1)] * 2500:
            machine.do(move)
        machine.settle()
        told = self.check(machine)
        self.assertEqual(told, ("row", list(range(2500, 3750)) + list(range(2500))))


if __name__ == "__main__":
    unittest.main()
