import copy
import unittest

from helper import BAD_CLERKS, BAD_PROGRAMS, CLEAR, KINDS, board_with, make, stand
from traylate.errors import NoClerks, NoKind, NoMove, NoProgram
from traylate.machines import Machine

TOP = 10 ** 60
SET3 = (("put", 0, 7), ("set", 3, 0))


class FirstStandTest(unittest.TestCase):
    def refused(self, refusal, *handed):
        with self.assertRaises(refusal) as caught:
            Machine(*handed)
        self.assertIs(type(caught.exception), refusal)
        return caught.exception

    def test_the_first_stand(self):
        program = (SET3, (), (CLEAR,) * 120, (("skip", 0, 0),))
        for kind in KINDS:
            with self.subTest(kind=kind):
                self.assertEqual(stand(Machine(program, kind)), {
                    "program": program,
                    "kind": kind,
                    "moves": [("do", 0), ("do", 2), ("do", 3)],
                    "ended": False,
                    "places": [0, 0, 0, 0],
                    "done": [0, 0, 0, 0],
                    "registers": [[0, 0, 0, 0]] * 4,
                    "waiting": [[], [], [], []],
                    "board": [0] * 12,
                    "deeds": [],
                    "over": [[]] * 12,
                })

    def test_one_to_four_clerks(self):
        for many in [1, 2, 3, 4]:
            machine = Machine((SET3,) * many)
            self.assertEqual(machine.moves(), [("do", clerk) for clerk in range(many)])

    def test_row_where_the_kind_is_left_out(self):
        machine = Machine(((("set", 5, 0), ("set", 2, 0)),))
        self.assertEqual(machine.kind, "row")
        make(machine, "d0 d0")
        self.assertEqual(machine.moves(), [("carry", 0, 5)])

    def test_the_kind_by_its_argument(self):
        self.assertEqual(Machine(kind="name", program=(SET3,)).kind, "name")

    def test_no_clerks(self):
        for bad in BAD_CLERKS:
            for kind in KINDS + ["", None]:
                with self.subTest(bad=bad, kind=kind):
                    self.refused(NoClerks, bad, kind)
            self.refused(NoClerks, bad)

    def test_no_program(self):
        for bad, clerk, place in BAD_PROGRAMS:
            for kind in KINDS + ["rows", None]:
                with self.subTest(bad=bad, kind=kind):
                    error = self.refused(NoProgram, bad, kind)
                    self.assertEqual((error.clerk, error.place), (clerk, place))

    def test_no_kind(self):
        for bad in ["", "rows", "Row", "names", "all", None, 0, True, ["row"], ("row",), {}]:
            with self.subTest(bad=bad):
                self.refused(NoKind, (SET3,), bad)
                self.refused(NoKind, ((),), bad)

    def test_nothing_handed_in_is_changed(self):
        for program in [(SET3, ()), [[CLEAR]], ([CLEAR],), ((["clear"],),)]:
            kept = copy.deepcopy(program)
            try:
                make(Machine(program), "d0 d0 c0.3")
            except (NoClerks, NoProgram):
                pass
            self.assertEqual(program, kept)

    def test_machines_keep_apart(self):
        program = (SET3, SET3)
        one = Machine(program, "none")
        other = Machine(program, "none")
        first = stand(other)
        make(one, "d0 d0 d1 d1")
        self.assertEqual(stand(other), first)
        self.assertEqual(stand(Machine(program, "none")), first)


class StepsTest(unittest.TestCase):
    """What each step does, alone."""

    def done(self, part, moves, kind="row", clerks=1):
        machine = Machine((part,) * clerks, kind)
        make(machine, moves)
        return machine

    def test_put(self):
        for reg in range(4):
            for number in [0, 1, TOP - 1]:
                machine = self.done((("put", reg, number),), "d0")
                told = [0, 0, 0, 0]
                told[reg] = number
                self.assertEqual(machine.registers(0), told)
                self.assertEqual((machine.where(0), machine.steps_done(0)), (1, 1))
                self.assertEqual((machine.deeds(), machine.board(), machine.waiting(0)), ([], [0] * 12, []))

    def test_put_over_another_number(self):
        machine = self.done((("put", 1, 5), ("put", 1, 0)), "d0 d0")
        self.assertEqual(machine.registers(0), [0, 0, 0, 0])

    def test_add(self):
        machine = self.done((("put", 0, 5), ("put", 3, 8), ("add", 0, 3)), "d0 d0 d0")
        self.assertEqual(machine.registers(0), [13, 0, 0, 8])
        self.assertEqual((machine.where(0), machine.steps_done(0), machine.deeds()), (3, 3, []))

    def test_add_the_same_register_twice(self):
        machine = self.done((("put", 2, 21), ("add", 2, 2)), "d0 d0")
        self.assertEqual(machine.registers(0), [0, 0, 42, 0])

    def test_add_about_top(self):
        cases = [
            (TOP - 2, 1, TOP - 1), (TOP - 1, 0, TOP - 1), (TOP - 1, 1, 0), (TOP - 1, 2, 1), (1, TOP - 1, 0),
            (TOP - 1, TOP - 1, TOP - 2), (TOP // 2, TOP // 2, 0), (TOP // 2, TOP // 2 - 1, TOP - 1),
            (TOP // 2, TOP // 2 + 1, 1),
        ]
        for one, other, total in cases:
            machine = self.done((("put", 0, one), ("put", 1, other), ("add", 0, 1)), "d0 d0 d0")
            self.assertEqual(machine.registers(0), [total, other, 0, 0])

    def test_add_the_same_register_twice_about_top(self):
        for one, total in [(TOP - 1, TOP - 2), (TOP // 2, 0), (TOP // 2 - 1, TOP - 2), (TOP // 2 + 1, 2), (0, 0)]:
            machine = self.done((("put", 1, one), ("add", 1, 1)), "d0 d0")
            self.assertEqual(machine.registers(0), [0, total, 0, 0])

    def test_set_waits_in_the_tray(self):
        for kind in ["row", "name"]:
            machine = self.done(SET3, "d0 d0", kind)
            self.assertEqual(machine.waiting(0), [(3, 7)])
            self.assertEqual(machine.board(), [0] * 12)
            self.assertEqual(machine.registers(0), [7, 0, 0, 0])
            self.assertEqual((machine.where(0), machine.steps_done(0)), (2, 2))
            self.assertEqual(machine.over(3), [])
            self.assertEqual(machine.moves(), [("carry", 0, 3)])

    def test_set_with_trays_of_the_kind_none(self):
        machine = self.done(SET3, "d0 d0", "none")
        self.assertEqual(machine.waiting(0), [])
        self.assertEqual(machine.board(), board_with({3: 7}))
        self.assertEqual(machine.registers(0), [7, 0, 0, 0])
        self.assertEqual((machine.where(0), machine.steps_done(0)), (2, 2))
        self.assertEqual(machine.over(3), [0])
        self.assertEqual(machine.moves(), [])

    def test_set_comes_last_into_the_tray(self):
        part = (("put", 0, 1), ("set", 5, 0), ("put", 1, 2), ("set", 2, 1), ("set", 5, 1), ("set", 0, 2))
        for kind in ["row", "name"]:
            machine = self.done(part, "d0 d0 d0 d0 d0 d0", kind)
            self.assertEqual(machine.waiting(0), [(5, 1), (2, 2), (5, 2), (0, 0)])

    def test_each_clerk_has_its_own_tray_and_registers(self):
        machine = self.done(SET3, "d1 d1", "row", clerks=3)
        self.assertEqual([machine.waiting(clerk) for clerk in range(3)], [[], [(3, 7)], []])
        self.assertEqual([machine.registers(clerk)[0] for clerk in range(3)], [0, 7, 0])
        self.assertEqual([machine.where(clerk) for clerk in range(3)], [0, 2, 0])
        self.assertEqual([machine.steps_done(clerk) for clerk in range(3)], [0, 2, 0])

    def test_look_sees_the_first_0(self):
        for kind in KINDS:
            machine = self.done((("put", 1, 9), ("look", 1, 4)), "d0 d0", kind)
            self.assertEqual(machine.registers(0), [0, 0, 0, 0])
            self.assertEqual((machine.where(0), machine.steps_done(0)), (2, 2))

    def test_look_sees_the_own_trays_latest(self):
        part = (("put", 0, 1), ("set", 3, 0), ("put", 0, 2), ("set", 3, 0), ("put", 0, 5), ("set", 4, 0), ("look", 1, 3))
        for kind in KINDS:
            machine = self.done(part, "d0 d0 d0 d0 d0 d0 d0", kind)
            self.assertEqual(machine.registers(0), [5, 2, 0, 0])

    def test_look_sees_the_own_tray_ahead_of_the_board(self):
        looker = (("put", 0, 8), ("set", 3, 0), ("look", 1, 3), ("look", 2, 3))
        for kind in ["row", "name"]:
            machine = Machine((looker, SET3), kind)
            make(machine, "d0 d0 d1 d1 c1.3 d0")
            self.assertEqual(machine.board()[3], 7)
            self.assertEqual(machine.registers(0), [8, 8, 0, 0])
            make(machine, "c0.3 d0")
            self.assertEqual(machine.registers(0), [8, 8, 8, 0])

    def test_look_sees_the_board(self):
        looker = (("look", 2, 3), ("look", 1, 3))
        for kind in ["row", "name"]:
            machine = Machine((SET3, looker), kind)
            make(machine, "d0 d0 d1")
            self.assertEqual(machine.registers(1), [0, 0, 0, 0])
            make(machine, "c0.3 d1")
            self.assertEqual(machine.registers(1), [0, 7, 0, 0])
            self.assertEqual(machine.waiting(1), [])
            self.assertEqual(machine.board(), board_with({3: 7}))

    def test_look_sees_no_other_tray(self):
        for kind in ["row", "name"]:
            machine = Machine((SET3, (("look", 0, 3),)), kind)
            make(machine, "d0 d0 d1")
            self.assertEqual(machine.registers(1), [0, 0, 0, 0])

    def test_look_at_another_name_than_waits(self):
        machine = self.done(SET3 + (("look", 0, 4),), "d0 d0 d0")
        self.assertEqual(machine.registers(0), [0, 0, 0, 0])

    def test_swap(self):
        part = (("put", 2, 6), ("swap", 2, 9), ("swap", 1, 9))
        for kind in KINDS:
            machine = self.done(part, "d0 d0", kind)
            self.assertEqual(machine.registers(0), [0, 0, 0, 0])
            self.assertEqual(machine.board(), board_with({9: 6}))
            self.assertEqual((machine.waiting(0), machine.over(9)), ([], [0]))
            make(machine, "d0")
            self.assertEqual(machine.registers(0), [0, 6, 0, 0])
            self.assertEqual(machine.board(), [0] * 12)
            self.assertEqual((machine.where(0), machine.steps_done(0), machine.over(9)), (3, 3, [0, 1]))

    def test_swap_and_clear_with_a_tray_that_is_not_empty(self):
        for step in [("swap", 1, 3), ("swap", 1, 4), CLEAR]:
            for kind in ["row", "name"]:
                with self.subTest(step=step, kind=kind):
                    machine = self.done(SET3 + (step,), "d0 d0", kind)
                    self.assertEqual(machine.moves(), [("carry", 0, 3)])
                    kept = stand(machine)
                    with self.assertRaises(NoMove):
                        machine.do(("do", 0))
                    self.assertEqual(stand(machine), kept)
                    make(machine, "c0.3")
                    self.assertEqual(machine.moves(), [("do", 0)])
                    make(machine, "d0")
                    self.assertEqual((machine.where(0), machine.steps_done(0)), (3, 3))
                    self.assertEqual(machine.registers(0), [7, 7, 0, 0] if step == ("swap", 1, 3) else [7, 0, 0, 0])

    def test_swap_and_clear_with_trays_of_the_kind_none(self):
        for step in [("swap", 1, 3), CLEAR]:
            machine = self.done(SET3 + (step,), "d0 d0", "none")
            self.assertEqual(machine.moves(), [("do", 0)])

    def test_another_clerks_tray_keeps_no_swap_and_no_clear(self):
        for step in [("swap", 1, 3), CLEAR]:
            machine = Machine((SET3, (step,)))
            make(machine, "d0 d0")
            self.assertEqual(machine.moves(), [("do", 1), ("carry", 0, 3)])
            make(machine, "d1")
            self.assertEqual(machine.where(1), 1)

    def test_clear_does_nothing(self):
        machine = self.done((("put", 0, 5), CLEAR), "d0")
        before = stand(machine)
        make(machine, "d0")
        before.update(places=[2], done=[2], moves=[], ended=True)
        self.assertEqual(stand(machine), before)

    def test_skip(self):
        # At place 2 of 4: to a place before, its own, the next one, one behind, the part's length.
        for to in range(5):
            for number, place in [(0, to), (1, 3), (TOP - 1, 3)]:
                with self.subTest(to=to, number=number):
                    machine = self.done((("put", 1, number), CLEAR, ("skip", 1, to), CLEAR), "d0 d0")
                    before = stand(machine)
                    make(machine, "d0")
                    before.update(places=[place], done=[3], ended=place == 4, moves=[] if place == 4 else [("do", 0)])
                    self.assertEqual(stand(machine), before)

    def test_skip_by_its_own_register(self):
        for reg in range(4):
            for other in range(4):
                machine = self.done((("put", other, 3), ("skip", reg, 0)), "d0 d0")
                self.assertEqual(machine.where(0), 2 if reg == other else 0)

    def test_skip_to_itself_again_and_again(self):
        machine = self.done((("skip", 0, 0),), "d0 d0 d0")
        self.assertEqual((machine.where(0), machine.steps_done(0), machine.moves()), (0, 3, [("do", 0)]))

    def test_skip_from_the_last_place_of_120(self):
        part = (CLEAR,) * 119 + (("skip", 0, 120),)
        machine = self.done(part, "d0 " * 120)
        self.assertEqual((machine.where(0), machine.ended()), (120, True))

    def test_skip_is_done_with_whatever_waits(self):
        machine = self.done(SET3 + (("skip", 1, 0),), "d0 d0 d0")
        self.assertEqual((machine.where(0), machine.waiting(0)), (0, [(3, 7)]))


class MovesTest(unittest.TestCase):
    PROGRAM = (
        (("set", 5, 0), ("set", 2, 0), CLEAR),
        (),
        (("set", 9, 0), ("set", 9, 1), ("set", 0, 0)),
        (("look", 0, 0), ("swap", 0, 1)),
    )

    def no_move(self, machine, move):
        kept = stand(machine)
        with self.assertRaises(NoMove) as caught:
            machine.do(move)
        self.assertIs(type(caught.exception), NoMove)
        self.assertEqual(stand(machine), kept)

    def test_in_their_order(self):
        told = {
            "row": [("do", 3), ("carry", 0, 5), ("carry", 2, 9)],
            "name": [("do", 3), ("carry", 0, 2), ("carry", 0, 5), ("carry", 2, 0), ("carry", 2, 9)],
            "none": [("do", 0), ("do", 3)],
        }
        for kind in KINDS:
            machine = Machine(self.PROGRAM, kind)
            self.assertEqual(machine.moves(), [("do", 0), ("do", 2), ("do", 3)])
            make(machine, "d2 d0 d2 d0 d2")
            with self.subTest(kind=kind):
                self.assertEqual(machine.moves(), told[kind])
                self.assertTrue(all(type(move) is tuple for move in machine.moves()))

    def test_do_ahead_of_carry(self):
        machine = Machine((SET3, SET3))
        make(machine, "d0 d0 d1")
        self.assertEqual(machine.moves(), [("do", 1), ("carry", 0, 3)])

    def test_carry(self):
        machine = Machine(self.PROGRAM, "name")
        make(machine, "d2 d2 d2")
        self.assertIsNone(machine.do(("carry", 2, 0)))
        self.assertEqual(machine.waiting(2), [(9, 0), (9, 0)])
        self.assertEqual([machine.over(0), machine.over(9)], [[2], []])
        make(machine, "c2.9")
        self.assertEqual([machine.over(0), machine.over(9)], [[2], [0]])
        make(machine, "c2.9")
        self.assertEqual([machine.over(0), machine.over(9)], [[2], [0, 1]])
        self.assertEqual(machine.where(2), 3)
        self.assertEqual(machine.steps_done(2), 3)

    def test_carry_gives_the_name_its_number_on_the_board(self):
        part = (("put", 0, 5), ("set", 1, 0), ("put", 0, 6), ("set", 1, 0), ("put", 0, 8), ("set", 11, 0))
        machine = Machine((part,))
        make(machine, "d0 d0 d0 d0 d0 d0")
        boards = []
        for name in [1, 1, 11]:
            machine.do(("carry", 0, name))
            boards.append(machine.board())
        self.assertEqual(boards, [board_with({1: 5}), board_with({1: 6}), board_with({1: 6, 11: 8})])
        self.assertEqual(machine.registers(0), [8, 0, 0, 0])

    def test_do_gives_nothing_back(self):
        machine = Machine((SET3,))
        self.assertIsNone(machine.do(("do", 0)))

    def test_every_move_told_may_be_made_and_no_other(self):
        every = [("do", clerk) for clerk in range(4)]
        every += [("carry", clerk, name) for clerk in range(4) for name in range(12)]
        for kind in KINDS:
            for made in ["", "d2", "d2 d0", "d2 d0 d2 d0 d2", "d3", "d3 d3 d0 d0"]:
                machine = Machine(self.PROGRAM, kind)
                make(machine, made)
                for move in every:
                    with self.subTest(kind=kind, made=made, move=move):
                        if move in machine.moves():
                            machine.twin().do(move)
                        else:
                            self.no_move(machine, move)

    def test_a_clerk_at_its_parts_length(self):
        for kind in KINDS:
            machine = Machine((SET3, ()), kind)
            self.no_move(machine, ("do", 1))
            make(machine, "d0 d0")
            self.no_move(machine, ("do", 0))

    def test_a_clerk_that_there_is_none(self):
        for kind in KINDS:
            machine = Machine((SET3, SET3), kind)
            make(machine, "d0 d0 d1 d1")
            for clerk in [2, 3, 4, -1, -2, 100, 10 ** 5000]:
                self.no_move(machine, ("do", clerk))
                self.no_move(machine, ("carry", clerk, 3))

    def test_a_name_that_does_not_wait(self):
        for kind in KINDS:
            machine = Machine((SET3, SET3), kind)
            make(machine, "d0 d0")
            for name in [0, 1, 2, 4, 11, 12, -1, -9, 100]:
                self.no_move(machine, ("carry", 0, name))
            for name in range(12):
                self.no_move(machine, ("carry", 1, name))

    def test_a_name_that_waits_but_may_not_be_carried(self):
        machine = Machine(self.PROGRAM, "row")
        make(machine, "d0 d0")
        self.no_move(machine, ("carry", 0, 2))
        make(machine, "c0.5 c0.2")
        self.no_move(machine, ("carry", 0, 5))
        self.no_move(machine, ("carry", 0, 2))

    def test_carry_with_trays_of_the_kind_none(self):
        machine = Machine((SET3,), "none")
        make(machine, "d0 d0")
        for name in range(12):
            self.no_move(machine, ("carry", 0, name))

    def test_any_other_tuple(self):
        bad_moves = [
            (), ("do",), ("carry",), ("carry", 0), ("do", 0, 0), ("do", 0, None), ("carry", 0, 3, 0), ("do", 0, 3),
            ("", 0), ("Do", 0), ("DO", 0), ("does", 0), ("do ", 0), ("Carry", 0, 3), ("take", 0, 3), ("clear",),
            ("settle",), (0,), (0, "do"), (0, 0), (None, 0), (None,), ("do", None), ("do", "0"), ("do", "do"),
            ("do", (0,)), ("do", [0]), ("do", {}), ("do", 0.0), ("do", True), ("do", False), ("carry", 0, None),
            ("carry", 0, "3"), ("carry", None, 3), ("carry", "0", 3), ("carry", 0, [3]), ("carry", 0, 3.0),
            ("carry", False, 3), (("do", 0),), (["do"], 0), ("carry", 3, 0), ("do0",), ("do", 0, "x"), (b"do", 0),
        ]
        for kind in KINDS:
            machine = Machine((SET3 + (CLEAR,) * 3, SET3), kind)
            make(machine, "d0 d0 d1")
            for bad in bad_moves:
                with self.subTest(kind=kind, bad=bad):
                    self.no_move(machine, bad)

    def test_what_is_no_tuple(self):
        machine = Machine((SET3,))
        for bad in [["do", 0], None, "do", "do 0", "", 0, {}, {"do": 0}, [], [("do", 0)], object()]:
            with self.subTest(bad=bad):
                self.no_move(machine, bad)

    def test_a_move_handed_in_is_not_changed(self):
        machine = Machine((SET3,))
        for bad in [("do", [0]), ["do", 0], ["carry", 0, [3]], {"do": [0]}]:
            kept = copy.deepcopy(bad)
            self.no_move(machine, bad)
            self.assertEqual(bad, kept)


if __name__ == "__main__":
    unittest.main()
