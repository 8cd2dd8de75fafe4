import unittest

from helper import KINDS, make
from traylate.machines import Machine

SET_TWICE = (("put", 0, 4), ("set", 3, 0), ("put", 0, 6), ("set", 3, 0))
LOOK_TWICE = (("look", 0, 3), ("look", 1, 3))


class DeedsTest(unittest.TestCase):
    def told(self, program, moves, kind="row"):
        machine = Machine(program, kind)
        make(machine, moves)
        return machine

    def test_steps_that_are_no_deeds(self):
        part = (("put", 0, 4), ("add", 0, 0), ("clear",), ("skip", 1, 4))
        for kind in KINDS:
            machine = self.told((part,), "d0 d0 d0 d0", kind)
            self.assertEqual(machine.deeds(), [])
            self.assertEqual([machine.over(name) for name in range(12)], [[]] * 12)

    def test_a_set(self):
        for kind in KINDS:
            machine = self.told((SET_TWICE,), "d0 d0", kind)
            self.assertEqual(machine.deeds(), [("set", 0, 3, None, 4, None)])

    def test_a_set_of_0(self):
        machine = self.told(((), (("set", 11, 3),)), "d1")
        self.assertEqual(machine.deeds(), [("set", 1, 11, None, 0, None)])

    def test_a_look_that_got_the_first_0(self):
        for kind in KINDS:
            machine = self.told(((("look", 2, 10),),), "d0", kind)
            self.assertEqual(machine.deeds(), [("look", 0, 10, 0, None, None)])

    def test_a_look_that_got_a_0_that_was_set(self):
        for kind, moves in [("row", "d0 d0"), ("row", "d0 c0.10 d0"), ("name", "d0 c0.10 d0"), ("none", "d0 d0")]:
            machine = self.told(((("set", 10, 0), ("look", 2, 10)),), moves, kind)
            self.assertEqual(machine.deeds()[1], ("look", 0, 10, 0, None, 0))

    def test_a_look_into_the_own_tray_at_the_latest_setting(self):
        for kind in KINDS:
            machine = self.told((SET_TWICE + (("look", 1, 3),),), "d0 d0 d0 d0 d0", kind)
            self.assertEqual(machine.deeds()[2], ("look", 0, 3, 6, None, 1))

    def test_looks_at_the_board_ahead_of_between_and_behind_carries(self):
        part = (("look", 0, 3),) * 3
        for kind in ["row", "name"]:
            machine = self.told((SET_TWICE, part), "d0 d0 d0 d0 d1 c0.3 d1 c0.3 d1", kind)
            self.assertEqual(machine.deeds(), [
                ("set", 0, 3, None, 4, None),
                ("set", 0, 3, None, 6, None),
                ("look", 1, 3, 0, None, None),
                ("look", 1, 3, 4, None, 0),
                ("look", 1, 3, 6, None, 1),
            ])

    def test_with_trays_of_the_kind_none(self):
        machine = self.told((SET_TWICE, LOOK_TWICE), "d0 d0 d1 d0 d0 d1", "none")
        self.assertEqual(machine.deeds(), [
            ("set", 0, 3, None, 4, None),
            ("look", 1, 3, 4, None, 0),
            ("set", 0, 3, None, 6, None),
            ("look", 1, 3, 6, None, 2),
        ])
        self.assertEqual(machine.over(3), [0, 2])

    def test_swaps(self):
        part = (("put", 1, 9), ("swap", 1, 2), ("swap", 0, 2))
        for kind in KINDS:
            machine = self.told((part,), "d0 d0 d0", kind)
            self.assertEqual(machine.deeds(), [("swap", 0, 2, 0, 9, None), ("swap", 0, 2, 9, 0, 0)])
            self.assertEqual(machine.over(2), [0, 1])

    def test_a_swap_of_what_another_clerk_set(self):
        program = (SET_TWICE, (("put", 0, 8), ("swap", 0, 3)), (("look", 0, 3),))
        machine = self.told(program, "d0 d0 d1 c0.3 d1 d2")
        self.assertEqual(machine.deeds(), [
            ("set", 0, 3, None, 4, None), ("swap", 1, 3, 4, 8, 0), ("look", 2, 3, 8, None, 1),
        ])
        self.assertEqual(machine.registers(1), [4, 0, 0, 0])
        self.assertEqual(machine.over(3), [0, 1])

    def test_the_same_number_from_another_deed(self):
        # Both clerks set 4: what was seen is told by deed, not by number.
        one = (("put", 0, 4), ("set", 3, 0))
        program = (one, one, LOOK_TWICE)
        machine = self.told(program, "d0 d0 d1 d1 c1.3 d2 c0.3 d2")
        self.assertEqual(machine.deeds()[2:], [("look", 2, 3, 4, None, 1), ("look", 2, 3, 4, None, 0)])
        self.assertEqual(machine.over(3), [1, 0])

    def test_looks_past_one_another(self):
        one = (("put", 0, 1), ("set", 0, 0), ("look", 1, 1))
        other = (("put", 0, 1), ("set", 1, 0), ("look", 1, 0))
        machine = self.told((one, other), "d0 d0 d1 d1 d0 d1 c0.0 c1.1")
        self.assertEqual(machine.deeds(), [
            ("set", 0, 0, None, 1, None), ("set", 1, 1, None, 1, None),
            ("look", 0, 1, 0, None, None), ("look", 1, 0, 0, None, None),
        ])

    def test_a_register_that_changes_behind_a_set(self):
        machine = self.told((SET_TWICE,), "d0 d0 d0")
        self.assertEqual(machine.registers(0), [6, 0, 0, 0])
        self.assertEqual(machine.deeds(), [("set", 0, 3, None, 4, None)])
        self.assertEqual(machine.waiting(0), [(3, 4)])

    def test_the_kinds_of_what_is_told(self):
        machine = self.told((SET_TWICE, LOOK_TWICE), "d0 d0 d1")
        self.assertIs(type(machine.deeds()), list)
        self.assertTrue(all(type(deed) is tuple and len(deed) == 6 for deed in machine.deeds()))
        self.assertIs(type(machine.over(3)), list)


class OverTest(unittest.TestCase):
    PART = (("set", 5, 0), ("set", 2, 0), ("set", 5, 0), ("set", 2, 0))

    def over(self, kind, moves):
        machine = Machine((self.PART, self.PART), kind)
        make(machine, moves)
        return [machine.over(name) for name in [2, 5]], machine

    def test_row(self):
        over, machine = self.over("row", "d0 d1 d1 d0 d0 d0 d1 d1 c1.5 c0.5 c1.2 c0.2 c0.5")
        self.assertEqual(over, [[2, 3], [1, 0, 4]])
        make(machine, "c1.5 c1.2 c0.2")
        self.assertEqual([machine.over(2), machine.over(5)], [[2, 3, 7, 5], [1, 0, 4, 6]])

    def test_name(self):
        over, machine = self.over("name", "d0 d1 d1 d0 d0 d0 d1 d1 c0.2 c0.2 c1.2 c1.5 c1.5")
        self.assertEqual(over, [[3, 5, 2], [1, 6]])
        make(machine, "c0.5 c1.2 c0.5")
        self.assertEqual([machine.over(2), machine.over(5)], [[3, 5, 2, 7], [1, 6, 0, 4]])

    def test_none(self):
        over, machine = self.over("none", "d0 d1 d1 d0 d0 d0 d1 d1")
        self.assertEqual(over, [[2, 3, 5, 7], [0, 1, 4, 6]])

    def test_a_setting_that_waits_is_not_among_them(self):
        for kind in ["row", "name"]:
            over, machine = self.over(kind, "d0 d0 d0 d0 d1 d1")
            self.assertEqual(over, [[], []])

    def test_looks_are_not_among_them(self):
        machine = Machine(((("look", 0, 1), ("set", 1, 0), ("look", 0, 1), ("swap", 0, 1)),))
        make(machine, "d0 d0 d0 c0.1 d0")
        self.assertEqual(machine.over(1), [1, 3])
        self.assertEqual(machine.deeds(), [
            ("look", 0, 1, 0, None, None), ("set", 0, 1, None, 0, None),
            ("look", 0, 1, 0, None, 1), ("swap", 0, 1, 0, 0, 1),
        ])


if __name__ == "__main__":
    unittest.main()
