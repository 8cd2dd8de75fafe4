import unittest

from traylate.errors import NoKind, NoMove
from traylate.trays import Tray, tray_of

KINDS = ["row", "name", "none"]
SETTINGS = [(5, 50, 0), (2, 20, 1), (5, 51, 3), (9, 90, 4), (2, 21, 6), (5, 52, 7)]


class LikeAll:
    def __eq__(self, other):
        return True


def filled(kind, settings=SETTINGS):
    tray = tray_of(kind)
    for name, number, deed in settings:
        tray.add(name, number, deed)
    return tray


def state(tray):
    return [tray.latest(name) for name in range(12)], tray.fronts(), tray.listed(), tray.is_empty()


class TraysTest(unittest.TestCase):
    def no_move(self, tray, name):
        kept = state(tray)
        with self.assertRaises(NoMove) as caught:
            tray.take(name)
        self.assertIs(type(caught.exception), NoMove)
        self.assertEqual(state(tray), kept)

    def test_three_kinds(self):
        for kind in KINDS:
            with self.subTest(kind=kind):
                tray = tray_of(kind)
                self.assertIsInstance(tray, Tray)
                self.assertEqual(state(tray), ([None] * 12, [], [], True))

    def test_any_other_kind(self):
        for bad in ["", "Row", "ROW", "rows", "row ", " row", "names", "no", "none\n", None, 0, 1, True, [], ["row"],
                    ("row",), {}, {"row": 1}, b"row", 1.5, LikeAll()]:
            with self.subTest(bad=bad):
                with self.assertRaises(NoKind) as caught:
                    tray_of(bad)
                self.assertIs(type(caught.exception), NoKind)

    def test_an_empty_tray(self):
        for kind in KINDS:
            tray = tray_of(kind)
            self.assertIs(tray.is_empty(), True)
            for name in range(12):
                with self.subTest(kind=kind, name=name):
                    self.assertIsNone(tray.latest(name))
                    self.no_move(tray, name)

    def test_one_setting(self):
        for kind in KINDS:
            for name in range(12):
                with self.subTest(kind=kind, name=name):
                    tray = filled(kind, [(name, 0, 4)])
                    self.assertIs(tray.is_empty(), False)
                    self.assertEqual(tray.fronts(), [name])
                    self.assertEqual(tray.latest(name), (name, 0, 4))
                    self.assertEqual(tray.listed(), [(name, 0)])
                    self.no_move(tray, (name + 1) % 12)
                    taken = tray.take(name)
                    self.assertEqual(taken, (name, 0, 4))
                    self.assertIs(type(taken), tuple)
                    self.assertEqual(state(tray), ([None] * 12, [], [], True))
                    self.no_move(tray, name)

    def test_the_latest(self):
        for kind in KINDS:
            with self.subTest(kind=kind):
                tray = tray_of(kind)
                latest = {}
                for setting in SETTINGS:
                    tray.add(*setting)
                    latest[setting[0]] = setting
                    for name in range(12):
                        self.assertEqual(tray.latest(name), latest.get(name))
                self.assertIs(type(tray.latest(5)), tuple)

    def test_listed_in_the_order_in_which_they_came(self):
        for kind in KINDS:
            with self.subTest(kind=kind):
                told = filled(kind).listed()
                self.assertEqual(told, [(5, 50), (2, 20), (5, 51), (9, 90), (2, 21), (5, 52)])
                self.assertIs(type(told), list)
                self.assertTrue(all(type(pair) is tuple for pair in told))

    def test_a_row_gives_the_first_alone(self):
        tray = filled("row")
        left = list(SETTINGS)
        while left:
            first = left.pop(0)
            self.assertEqual(tray.fronts(), [first[0]])
            for name in range(12):
                if name != first[0]:
                    self.no_move(tray, name)
            self.assertEqual(tray.take(first[0]), first)
            self.assertEqual(tray.listed(), [setting[:2] for setting in left])
            self.assertIs(tray.is_empty(), not left)
        for name in range(12):
            self.no_move(tray, name)

    def test_by_name_the_first_of_each(self):
        for kind in ["name", "none"]:
            with self.subTest(kind=kind):
                tray = filled(kind)
                self.assertEqual(tray.fronts(), [2, 5, 9])
                for name in [0, 1, 3, 4, 6, 7, 8, 10, 11]:
                    self.no_move(tray, name)
                self.assertEqual(tray.take(9), (9, 90, 4))
                self.assertEqual(tray.fronts(), [2, 5])
                self.assertEqual(tray.listed(), [(5, 50), (2, 20), (5, 51), (2, 21), (5, 52)])
                self.no_move(tray, 9)
                self.assertEqual(tray.take(2), (2, 20, 1))
                self.assertEqual(tray.latest(2), (2, 21, 6))
                self.assertEqual(tray.listed(), [(5, 50), (5, 51), (2, 21), (5, 52)])
                self.assertEqual(tray.take(2), (2, 21, 6))
                self.assertIsNone(tray.latest(2))
                self.assertEqual(tray.fronts(), [5])
                self.assertEqual([tray.take(5), tray.take(5), tray.take(5)], [(5, 50, 0), (5, 51, 3), (5, 52, 7)])
                self.assertIs(tray.is_empty(), True)
                self.no_move(tray, 5)

    def test_fronts_rise_whatever_came_first(self):
        for kind in ["name", "none"]:
            tray = filled(kind, [(name, 0, 11 - name) for name in range(11, -1, -1)])
            self.assertEqual(tray.fronts(), list(range(12)))
        tray = filled("row", [(name, 0, 11 - name) for name in range(11, -1, -1)])
        self.assertEqual(tray.fronts(), [11])

    def test_several_settings_of_one_name(self):
        for kind in KINDS:
            with self.subTest(kind=kind):
                tray = filled(kind, [(7, 3, 0), (7, 3, 1), (7, 1, 2)])
                self.assertEqual(tray.fronts(), [7])
                self.assertEqual(tray.latest(7), (7, 1, 2))
                self.assertEqual(tray.take(7), (7, 3, 0))
                self.assertEqual(tray.take(7), (7, 3, 1))
                self.assertEqual(tray.latest(7), (7, 1, 2))
                self.assertEqual(tray.listed(), [(7, 1)])

    def test_the_order_is_by_coming_not_by_deed_or_number(self):
        for kind in KINDS:
            with self.subTest(kind=kind):
                tray = filled(kind, [(4, 9, 9), (3, 1, 1), (4, 0, 0), (3, 5, 9)])
                self.assertEqual(tray.listed(), [(4, 9), (3, 1), (4, 0), (3, 5)])
                self.assertEqual(tray.latest(4), (4, 0, 0))
                self.assertEqual(tray.take(4), (4, 9, 9))

    def test_added_behind_what_was_taken(self):
        for kind in KINDS:
            with self.subTest(kind=kind):
                tray = filled(kind, [(1, 10, 0), (0, 11, 1)])
                tray.take(1)
                tray.add(1, 12, 2)
                self.assertEqual(tray.listed(), [(0, 11), (1, 12)])
                self.assertEqual(tray.fronts(), [0] if kind == "row" else [0, 1])
                tray.take(0)
                tray.take(1)
                tray.add(0, 13, 3)
                self.assertEqual(state(tray), ([(0, 13, 3)] + [None] * 11, [0], [(0, 13)], False))

    def test_kind_none_keeps_what_is_added(self):
        tray = filled("none")
        self.assertEqual(len(tray.listed()), len(SETTINGS))
        self.assertIs(tray.is_empty(), False)

    def test_greatest_numbers(self):
        for kind in KINDS:
            tray = filled(kind, [(11, 10 ** 60 - 1, 9999)])
            self.assertEqual(tray.take(11), (11, 10 ** 60 - 1, 9999))

    def test_names_of_other_forms_are_refused(self):
        for kind in KINDS:
            for bad in [12, -1, 100, None, "1", "", (1,), [1], {}, True, 1.0]:
                with self.subTest(kind=kind, bad=bad):
                    self.no_move(filled(kind, [(1, 0, 0), (11, 0, 1)]), bad)

    def test_lists_told_are_the_askers_own(self):
        for kind in KINDS:
            with self.subTest(kind=kind):
                tray = filled(kind)
                kept = state(tray)
                for told in [tray.fronts(), tray.listed()]:
                    told.append((0, 0))
                    told[0] = None
                    told.clear()
                self.assertEqual(state(tray), kept)
                held = tray.listed()
                fronts = tray.fronts()
                tray.take(5)
                tray.add(0, 1, 8)
                self.assertEqual(held, kept[2])
                self.assertEqual(fronts, kept[1])

    def test_trays_keep_apart(self):
        for kind in KINDS:
            one = filled(kind)
            other = tray_of(kind)
            self.assertIs(other.is_empty(), True)
            other.add(0, 1, 2)
            self.assertEqual(one.listed(), [setting[:2] for setting in SETTINGS])
            self.assertEqual(other.listed(), [(0, 1)])


if __name__ == "__main__":
    unittest.main()
