import random
import unittest

from helper import KINDS, board_with, make, run, some_crossing_program, some_program, stand
from traylate.errors import TrayError, Unlike
from traylate.machines import Machine
from traylate.orders import order
from traylate.plains import replay


def ran(program, moves, kind="row"):
    machine = Machine(program, kind)
    make(machine, moves)
    return machine


def ends(machine):
    clerks = range(len(machine.program))
    return [
        machine.board(), [machine.registers(clerk) for clerk in clerks], [machine.where(clerk) for clerk in clerks],
        [machine.steps_done(clerk) for clerk in clerks],
    ]


def plain_outcome(machine, row):
    """What [22] makes of a row, step by step: the deed of the refusal, or all that is told of the new machine."""
    deeds = machine.deeds()
    plain = Machine(machine.program, "none")
    for number in row:
        kind, clerk, name, got, gave, seen = deeds[number]
        ahead = plain.deeds()
        while plain.deeds() == ahead:
            if plain.steps_done(clerk) == machine.steps_done(clerk) or ("do", clerk) not in plain.moves():
                return number
            plain.do(("do", clerk))
        last = plain.deeds()[-1]
        if (kind, clerk, name, got, gave) != last[:5]:
            return number
        if (seen is None) != (last[5] is None) or (seen is not None and row.index(seen) != last[5]):
            return number
    for clerk in range(len(machine.program)):
        while plain.steps_done(clerk) < machine.steps_done(clerk) and ("do", clerk) in plain.moves():
            plain.do(("do", clerk))
    return stand(plain)


class ReplayCase(unittest.TestCase):
    def refused(self, machine, row):
        kept, kept_row = stand(machine), list(row)
        with self.assertRaises(Unlike) as caught:
            replay(machine, row)
        self.assertIsInstance(caught.exception, TrayError)
        self.assertEqual(stand(machine), kept)
        self.assertEqual(row, kept_row)
        return caught.exception.deed

    def replayed(self, machine, row):
        kept, kept_row = stand(machine), list(row)
        plain = replay(machine, row)
        self.assertEqual(stand(machine), kept)
        self.assertEqual(row, kept_row)
        self.assertIs(type(plain), Machine)
        self.assertIsNot(plain, machine)
        self.assertEqual((plain.program, plain.kind), (machine.program, "none"))
        return plain

    def check_alike(self, machine, row):
        """The row is replayed, the machine told ends as the run, and has its deeds by their places in the row."""
        plain = self.replayed(machine, row)
        self.assertEqual(ends(plain), ends(machine))
        places = {number: place for place, number in enumerate(row)}
        deeds = machine.deeds()
        told = [deeds[number][:5] + (places.get(deeds[number][5]),) for number in row]
        self.assertEqual(plain.deeds(), told)
        for name in range(12):
            self.assertEqual(plain.over(name), [places[number] for number in machine.over(name)])
        return plain


SET_THEN_LOOK = ((("put", 0, 4), ("set", 3, 0)), (("look", 0, 3), ("add", 0, 0)))


class OrdinaryRowsTest(ReplayCase):
    def test_as_done_with_trays_of_the_kind_none(self):
        chance = random.Random(22)
        for turn in range(150):
            machine = run(Machine(some_program(chance), "none"), chance, 50)
            plain = self.replayed(machine, list(range(len(machine.deeds()))))
            self.assertEqual(stand(plain), stand(machine))

    def test_a_row_told_for_trays_of_each_kind(self):
        for kind in KINDS:
            machine = ran(SET_THEN_LOOK, "d0 d0 d1 d1", kind)
            machine.settle()
            row = order(machine)[1]
            self.assertEqual(row, [0, 1] if kind == "none" else [1, 0])
            plain = self.check_alike(machine, row)
            self.assertEqual(plain.board(), board_with({3: 4}))
            self.assertEqual(plain.registers(1), [8 if kind == "none" else 0, 0, 0, 0])

    def test_another_row_than_the_one_told(self):
        # Nothing binds the two looks: each row of them will do.
        machine = ran(((("look", 0, 1),), (("look", 0, 2),)), "d0 d1")
        self.assertEqual(self.check_alike(machine, [0, 1]).deeds()[0][1], 0)
        self.assertEqual(self.check_alike(machine, [1, 0]).deeds()[0][1], 1)

    def test_deeds_that_stand_alike_may_change_places(self):
        # Their kind, clerk, name, got, gave and seen are alike, so the numbers alone differ.
        machine = ran(((("look", 0, 1), ("look", 1, 1)),), "d0 d0")
        self.check_alike(machine, [1, 0])
        machine = ran(((("set", 1, 0), ("set", 1, 0)),), "d0 d0 c0.1 c0.1")
        self.assertEqual(self.replayed(machine, [1, 0]).over(1), [0, 1])

    def test_swaps(self):
        program = ((("put", 0, 1), ("swap", 0, 5)), (("put", 0, 2), ("swap", 0, 5)), (("look", 0, 5),))
        machine = ran(program, "d0 d0 d1 d1 d2")
        self.check_alike(machine, [0, 1, 2])
        self.assertEqual(self.refused(machine, [1, 0, 2]), 1)

    def test_a_tuple_will_do_as_well(self):
        machine = ran(SET_THEN_LOOK, "d0 d0 c0.3 d1")
        self.assertEqual(stand(replay(machine, (0, 1))), stand(replay(machine, [0, 1])))


class NotEachOnceTest(ReplayCase):
    def setUp(self):
        program = ((("look", 0, 1), ("look", 0, 2), ("look", 0, 4)),)
        self.machine = ran(program, "d0 d0 d0")

    def test_left_out(self):
        for row in [[0, 1], [1, 2], [0, 2], [2]]:
            self.assertIsNone(self.refused(self.machine, row))

    def test_twice(self):
        for row in [[0, 1, 1], [0, 0, 1, 2], [0, 1, 2, 2], [2, 2, 2]]:
            self.assertIsNone(self.refused(self.machine, row))

    def test_too_great(self):
        for row in [[0, 1, 3], [0, 1, 2, 3], [10 ** 80, 0, 1, 2]]:
            self.assertIsNone(self.refused(self.machine, row))

    def test_below_0(self):
        for row in [[0, 1, -1], [-1, 0, 1, 2], [-3, -2, -1]]:
            self.assertIsNone(self.refused(self.machine, row))

    def test_empty(self):
        self.assertIsNone(self.refused(self.machine, []))

    def test_what_is_no_number(self):
        for row in [[0, 1, "2"], [0, 1, None], [0, 1, 2, (3,)], [0, True, 2]]:
            self.assertIsNone(self.refused(self.machine, row))

    def test_a_run_without_deeds(self):
        machine = Machine(SET_THEN_LOOK)
        for row in [[0], [-1], [0, 1]]:
            self.assertIsNone(self.refused(machine, row))

    def test_ahead_of_all_else(self):
        # Deed 1 would be unlike, too, at the row's first place.
        self.assertIsNone(self.refused(self.machine, [1, 0, 0]))
        self.assertEqual(self.refused(self.machine, [1, 0, 2]), 1)


class UnlikeTest(ReplayCase):
    def test_another_kind(self):
        machine = ran(((("set", 3, 0), ("look", 1, 3)),), "d0 c0.3 d0")
        self.assertEqual(self.refused(machine, [1, 0]), 1)
        # A look and a swap that got the same of the same name.
        machine = ran(((("look", 0, 3), ("swap", 0, 3)),), "d0 d0")
        self.assertEqual(self.refused(machine, [1, 0]), 1)
        # A set and a swap that gave the same to the same name.
        machine = ran(((("set", 3, 0), ("swap", 0, 3)),), "d0 c0.3 d0")
        self.assertEqual(self.refused(machine, [1, 0]), 1)

    def test_another_name(self):
        machine = ran(((("set", 3, 0), ("set", 4, 0)),), "d0 d0 c0.3 c0.4")
        self.assertEqual(self.refused(machine, [1, 0]), 1)
        machine = ran(((("look", 0, 3), ("look", 0, 4)),), "d0 d0")
        self.assertEqual(self.refused(machine, [1, 0]), 1)

    def test_another_got(self):
        machine = ran(SET_THEN_LOOK, "d0 d0 d1 c0.3")
        self.assertEqual(self.refused(machine, [0, 1]), 1)
        machine = ran(SET_THEN_LOOK, "d0 d0 c0.3 d1")
        self.assertEqual(self.refused(machine, [1, 0]), 1)

    def test_another_gave(self):
        part = (("put", 0, 1), ("set", 3, 0), ("put", 0, 2), ("set", 3, 0))
        machine = ran((part,), "d0 d0 d0 d0 c0.3 c0.3")
        self.assertEqual(self.refused(machine, [1, 0]), 1)
        self.check_alike(machine, [0, 1])

    def test_the_deeds_of_another_clerk(self):
        # Both clerks do the same; the clerk is that of the deed, so the row may change places.
        machine = ran(((("look", 0, 3),), (("look", 0, 3),)), "d0 d1")
        self.assertEqual([deed[1] for deed in self.check_alike(machine, [1, 0]).deeds()], [1, 0])

    def test_the_number_of_another_deed(self):
        # Both sets give 4; what was seen is deed 1's.
        set_4 = (("put", 0, 4), ("set", 3, 0))
        machine = ran((set_4, set_4, (("look", 0, 3),)), "d0 d0 d1 d1 c0.3 c1.3 d2")
        self.check_alike(machine, [0, 1, 2])
        self.assertEqual(self.refused(machine, [1, 0, 2]), 2)
        self.assertEqual(self.refused(machine, [0, 2, 1]), 2)
        # By the places in the row: the deed seen is the row's first, not the machine's first.
        machine = ran((set_4, set_4, (("look", 0, 3),)), "d0 d0 d1 d1 c1.3 d2 c0.3")
        self.check_alike(machine, [1, 2, 0])
        self.assertEqual(self.refused(machine, [0, 2, 1]), 2)
        # Deed 1 is seen in this row, too; that the sets come to the board otherwise is not asked.
        self.assertEqual((machine.over(3), self.replayed(machine, [0, 1, 2]).over(3)), ([1, 0], [0, 1]))

    def test_the_number_of_another_deed_of_a_swap(self):
        set_4 = (("put", 0, 4), ("set", 3, 0))
        machine = ran((set_4, set_4, (("swap", 0, 3),)), "d0 d0 d1 d1 c0.3 c1.3 d2")
        self.assertEqual(machine.deeds()[2], ("swap", 2, 3, 4, 0, 1))
        self.check_alike(machine, [0, 1, 2])
        self.assertEqual(self.refused(machine, [1, 0, 2]), 2)

    def test_the_first_0_and_a_0_that_was_set(self):
        machine = ran(((("set", 3, 0),), (("look", 0, 3),)), "d0 d1 c0.3")
        self.assertEqual(machine.deeds()[1], ("look", 1, 3, 0, None, None))
        self.assertEqual(self.refused(machine, [0, 1]), 1)
        self.check_alike(machine, [1, 0])
        machine = ran(((("set", 3, 0),), (("look", 0, 3),)), "d0 c0.3 d1")
        self.assertEqual(machine.deeds()[1], ("look", 1, 3, 0, None, 0))
        self.assertEqual(self.refused(machine, [1, 0]), 1)
        self.check_alike(machine, [0, 1])

    def test_the_first_one_that_is_unlike(self):
        look = (("look", 0, 3),)
        machine = ran(((("put", 0, 4), ("set", 3, 0)), look, look, look), "d0 d0 d3 d1 d2 c0.3")
        for row, deed in [([0, 1, 2, 3], 1), ([0, 3, 2, 1], 3), ([2, 0, 3, 1], 3), ([3, 1, 0, 2], 2)]:
            self.assertEqual(self.refused(machine, row), deed)
        self.check_alike(machine, [2, 1, 3, 0])

    def test_rings_have_no_row(self):
        program = ((("set", 0, 0), ("look", 1, 1)), (("set", 1, 0), ("look", 1, 0)))
        machine = ran(program, "d0 d1 d0 d1 c0.0 c1.1")
        self.assertEqual(self.refused(machine, [0, 1, 2, 3]), 2)
        self.assertEqual(self.refused(machine, [0, 2, 1, 3]), 3)
        self.assertEqual(self.refused(machine, [1, 3, 0, 2]), 2)


class OtherWaysTest(ReplayCase):
    """Rows in which a clerk's deeds change places, so that it goes another way than in the run."""

    # In the run clerk 0 gets 0 first, then 4; in the row it gets 4 first.
    SET_4 = (("put", 0, 4), ("set", 3, 0))
    SET_0 = (("set", 3, 0),)

    def test_no_next_deed_at_the_parts_length(self):
        part = (("look", 0, 3), ("skip", 0, 3), ("skip", 1, 5), ("look", 0, 3), ("set", 7, 0))
        machine = ran((part, self.SET_4), "d0 d0 d1 d1 c1.3 d0 d0 c0.7")
        self.assertEqual([deed[0] for deed in machine.deeds()], ["look", "set", "look", "set"])
        self.assertEqual(self.refused(machine, [1, 2, 3, 0]), 3)
        self.assertEqual(self.refused(machine, [1, 2, 0, 3]), 0)
        self.check_alike(machine, [0, 1, 2, 3])

    def test_never_more_steps_than_in_the_run(self):
        # In the row's way the next look is the fifth step; the run has done four.
        part = (("look", 0, 3), ("skip", 0, 4), ("put", 1, 0), ("put", 1, 0), ("look", 0, 3), ("put", 1, 0))
        program = (part, self.SET_4, self.SET_0)
        moves = "d2 c2.3 d0 d0 d1 d1 c1.3 d0"
        machine = ran(program, moves + " d0")
        self.assertEqual(machine.deeds(), [
            ("set", 2, 3, None, 0, None), ("look", 0, 3, 0, None, 0), ("set", 1, 3, None, 4, None),
            ("look", 0, 3, 4, None, 2),
        ])
        self.assertEqual(machine.steps_done(0), 4)
        self.assertEqual(self.refused(machine, [2, 3, 0, 1]), 1)

    def test_as_many_steps_as_in_the_run_will_do(self):
        part = (("look", 0, 3), ("skip", 0, 3), ("put", 1, 0), ("look", 0, 3), ("put", 1, 0))
        machine = ran((part, self.SET_4, self.SET_0), "d2 c2.3 d0 d0 d1 d1 c1.3 d0 d0")
        self.assertEqual(machine.steps_done(0), 4)
        plain = self.replayed(machine, [2, 3, 0, 1])
        # The row's way is longer by one: the last put is not done in it.
        self.assertEqual((plain.steps_done(0), plain.where(0), machine.where(0)), (4, 4, 5))
        self.assertEqual(plain.registers(0), [0, 0, 0, 0])
        self.assertEqual(plain.board(), board_with({}))

    def test_a_clerk_that_would_go_round_for_ever(self):
        part = (("look", 0, 3), ("skip", 0, 3), ("skip", 1, 2), ("look", 0, 3))
        machine = ran((part, self.SET_4), "d0 d0 d1 d1 c1.3 d0")
        self.assertEqual(self.refused(machine, [1, 2, 0]), 0)

    def test_the_rest_ends_at_the_parts_length(self):
        # Both looks are done at once; then the run goes a longer way than the row.
        part = (("look", 0, 3), ("look", 1, 3), ("skip", 0, 4), ("skip", 2, 6), ("put", 3, 1), ("put", 3, 2))
        machine = ran((part, self.SET_4, self.SET_0), "d2 c2.3 d0 d1 d1 c1.3 d0 d0 d0 d0")
        self.assertEqual((machine.where(0), machine.steps_done(0)), (6, 5))
        plain = self.replayed(machine, [2, 3, 0, 1])
        self.assertEqual((plain.where(0), plain.steps_done(0)), (6, 4))
        self.assertEqual(plain.registers(0), [4, 0, 0, 0])

    def test_deeds_in_the_rest_by_clerk(self):
        # In the row's way each of clerks 0 and 1 sets name 5 behind its last deed of the run.
        looks = (("look", 0, 3), ("look", 1, 3))
        part = looks + (("skip", 0, 5), ("set", 5, 0), ("skip", 2, 7), ("put", 2, 1), ("put", 2, 2))
        program = (part, part, self.SET_4, self.SET_0)
        machine = ran(program, "d3 c3.3 d0 d1 d2 d2 c2.3 d0 d1 d0 d1 d0 d1 d0 d1")
        self.assertEqual(len(machine.deeds()), 6)
        plain = self.replayed(machine, [3, 5, 4, 0, 2, 1])
        self.assertEqual(plain.deeds()[6:], [("set", 0, 5, None, 4, None), ("set", 1, 5, None, 4, None)])
        self.assertEqual([plain.steps_done(clerk) for clerk in range(4)], [5, 5, 2, 1])
        self.assertEqual(plain.over(5), [6, 7])


class AnyRowTest(ReplayCase):
    def test_rows_by_chance_as_the_document_goes(self):
        chance = random.Random(27)
        found = {"replayed": 0, "refused": 0, "refused late": 0}
        for turn in range(600):
            machine = run(Machine(some_crossing_program(chance), KINDS[turn % 3]), chance, 30)
            told = order(machine)
            row = list(told[1]) if told[0] == "row" else list(range(len(machine.deeds())))
            for swaps in range(chance.randrange(3)):
                place = chance.randrange(len(row))
                row.insert(chance.randrange(max(0, place - 3), len(row)), row.pop(place))
            outcome = plain_outcome(machine, row)
            if isinstance(outcome, dict):
                self.assertEqual(stand(self.replayed(machine, row)), outcome)
                found["replayed"] += 1
            else:
                self.assertEqual(self.refused(machine, row), outcome)
                found["refused late" if row.index(outcome) > 4 else "refused"] += 1
        self.assertGreater(min(found.values()), 50)


class RestTest(ReplayCase):
    def test_the_steps_behind_the_last_deed(self):
        part = (("look", 0, 3), ("put", 1, 7), ("add", 1, 1), ("clear",), ("skip", 0, 0))
        machine = Machine((part, part))
        make(machine, "d0 d1 d0 d0 d0 d1")
        plain = self.check_alike(machine, [0, 1])
        self.assertEqual((plain.where(0), plain.where(1)), (4, 2))
        self.assertEqual((plain.registers(0), plain.registers(1)), ([0, 14, 0, 0], [0, 7, 0, 0]))
        make(machine, "d0")
        self.assertEqual(self.check_alike(machine, [1, 0]).where(0), 0)

    def test_a_deed_behind_the_runs_steps_is_not_done(self):
        part = (("look", 0, 3), ("put", 1, 7), ("set", 3, 1))
        machine = ran((part, part), "d0 d0 d1")
        plain = self.check_alike(machine, [0, 1])
        self.assertEqual(plain.deeds(), machine.deeds())
        self.assertEqual(plain.board(), board_with({}))

    def test_a_run_without_deeds(self):
        part = (("put", 1, 7), ("add", 1, 1), ("clear",), ("skip", 0, 0), ("set", 3, 0))
        for kind in KINDS:
            machine = Machine((part, part, ()), kind)
            self.assertEqual(ends(self.check_alike(machine, [])), ends(machine))
            make(machine, "d0 d0 d1 d0 d0 d0")
            plain = self.check_alike(machine, [])
            self.assertEqual([plain.steps_done(clerk) for clerk in range(3)], [5, 1, 0])
            self.assertEqual(plain.registers(0), [0, 7, 0, 0])

    def test_a_run_in_whose_trays_something_waits(self):
        for kind in ["row", "name"]:
            machine = ran(SET_THEN_LOOK, "d0 d0 d1", kind)
            self.assertEqual(machine.waiting(0), [(3, 4)])
            plain = self.replayed(machine, [1, 0])
            self.assertEqual((machine.board(), plain.board()), (board_with({}), board_with({3: 4})))
            self.assertEqual(plain.waiting(0), [])
            self.assertEqual(plain.deeds(), [("look", 1, 3, 0, None, None), ("set", 0, 3, None, 4, None)])
            self.assertEqual(self.refused(machine, [0, 1]), 1)
            self.assertEqual(machine.waiting(0), [(3, 4)])

    def test_a_look_at_what_waits_still(self):
        machine = ran(((("put", 0, 4), ("set", 3, 0), ("look", 1, 3)),), "d0 d0 d0")
        plain = self.replayed(machine, [0, 1])
        self.assertEqual(plain.deeds()[1], ("look", 0, 3, 4, None, 0))
        self.assertEqual(self.refused(machine, [1, 0]), 1)


class ApartTest(ReplayCase):
    def test_the_machines_go_their_own_ways(self):
        machine = ran(SET_THEN_LOOK, "d0 d0 c0.3 d1")
        row = [0, 1]
        plain = replay(machine, row)
        kept, kept_plain = stand(machine), stand(plain)
        make(plain, "d1")
        self.assertEqual(stand(machine), kept)
        again = replay(machine, row)
        row.reverse()
        make(machine, "d1")
        self.assertEqual(stand(again), kept_plain)

    def test_the_row_told_by_order_may_be_changed(self):
        machine = ran(SET_THEN_LOOK, "d0 d0 d1 c0.3")
        row = order(machine)[1]
        plain = replay(machine, row)
        kept = stand(plain)
        row[0] = 7
        self.assertEqual(stand(plain), kept)
        self.assertEqual(order(machine), ("row", [1, 0]))

    def test_a_replay_is_replayed_again(self):
        machine = ran(SET_THEN_LOOK, "d0 d0 d1 c0.3 d1")
        plain = replay(machine, [1, 0])
        self.assertEqual(stand(replay(plain, [0, 1])), stand(plain))


class PromiseTest(ReplayCase):
    def check_row_of_looks(self, machine, row):
        """[3]: clerks' deeds in their order, settings as they came, and looks that find what they got."""
        deeds = machine.deeds()
        for clerk in range(len(machine.program)):
            own = [number for number in row if deeds[number][1] == clerk]
            self.assertEqual(own, sorted(own))
        for name in range(12):
            settings = [number for number in row if deeds[number][2] == name and deeds[number][0] != "look"]
            self.assertEqual(settings, machine.over(name))
        latest = {}
        for number in row:
            kind, clerk, name, got, gave, seen = deeds[number]
            if kind != "set":
                self.assertEqual(latest.get(name), seen)
            if kind != "look":
                latest[name] = number

    def check_promise(self, machine):
        told = order(machine)
        if told[0] == "row":
            self.check_row_of_looks(machine, told[1])
            self.check_alike(machine, told[1])
        return told[0]

    def test_of_runs_of_each_kind_of_trays(self):
        chance = random.Random(23)
        found = {}
        for turn in range(900):
            kind = KINDS[turn % 3]
            program = [some_program, some_crossing_program][turn // 3 % 2](chance)
            machine = run(Machine(program, kind), chance, 40)
            if self.check_promise(machine) == "row" and machine.deeds():
                key = (kind, len(program))
                found[key] = found.get(key, 0) + 1
        self.assertEqual(sorted(found), sorted((kind, many) for kind in KINDS for many in [1, 2, 3, 4]))
        self.assertGreater(min(found.values()), 10)

    def test_of_a_run_again_and_again(self):
        chance = random.Random(24)
        for turn in range(40):
            machine = Machine(some_crossing_program(chance), KINDS[turn % 3])
            for part in range(4):
                run(machine, chance, 8)
                self.check_promise(machine)

    def test_of_ten_thousand_moves(self):
        swap = (("put", 2, 1), ("swap", 2, 2), ("skip", 3, 0))
        part = (("add", 0, 1), ("set", 0, 0), ("clear",), ("look", 1, 1)) + swap
        other = (("add", 0, 1), ("set", 1, 0), ("clear",), ("look", 1, 0)) + swap
        for kind in KINDS:
            machine = run(Machine((part, other, part, other), kind), random.Random(26), 10000)
            self.assertGreater(len(machine.deeds()), 3000)
            self.assertEqual(self.check_promise(machine), "row")


if __name__ == "__main__":
    unittest.main()
