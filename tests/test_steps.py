import copy
import unittest

from traylate.errors import NoStep
from traylate.steps import TOP, Add, Clear, Look, Put, Set, Skip, Step, Swap, step_of

GREATEST = {"register": 3, "name": 11, "number": 10 ** 60 - 1, "place": 120}

# Each word's class and the kinds of its parts.
FORMS = {
    "put": (Put, ("register", "number")),
    "add": (Add, ("register", "register")),
    "set": (Set, ("name", "register")),
    "look": (Look, ("register", "name")),
    "swap": (Swap, ("register", "name")),
    "clear": (Clear, ()),
    "skip": (Skip, ("register", "place")),
}

# One step of each kind but skip, whose next places are another matter.
PLAIN = [
    ("put", 0, 7), ("add", 1, 2), ("set", 3, 0), ("look", 2, 4), ("swap", 3, 5), ("clear",),
]


def least(word):
    return (word,) + tuple(0 for part in FORMS[word][1])


def with_part(told, at, part):
    return told[:at] + (part,) + told[at + 1:]


class LikeAll:
    def __eq__(self, other):
        return True


class StepsTest(unittest.TestCase):
    def refused(self, told):
        with self.assertRaises(NoStep) as caught:
            step_of(told)
        self.assertIs(type(caught.exception), NoStep)

    def parts_of_all(self):
        for word, (kind, parts) in FORMS.items():
            for at, part in enumerate(parts, start=1):
                yield word, at, part

    def test_top(self):
        self.assertEqual(TOP, 10 ** 60)
        self.assertIs(type(TOP), int)

    def test_classes_stand_under_step(self):
        for word, (kind, parts) in FORMS.items():
            with self.subTest(word=word):
                self.assertTrue(issubclass(kind, Step))
                self.assertIs(type(step_of(least(word))), kind)

    def test_all_parts_at_their_least_and_greatest(self):
        for word, (kind, parts) in FORMS.items():
            greatest = (word,) + tuple(GREATEST[part] for part in parts)
            for told in [least(word), greatest]:
                with self.subTest(told=told):
                    again = step_of(told).told()
                    self.assertEqual(again, told)
                    self.assertIs(type(again), tuple)

    def test_each_part_alone_at_its_greatest(self):
        for word, at, part in self.parts_of_all():
            told = with_part(least(word), at, GREATEST[part])
            with self.subTest(told=told):
                self.assertEqual(step_of(told).told(), told)

    def test_each_part_one_beyond_its_bounds(self):
        for word, at, part in self.parts_of_all():
            for bad in [-1, GREATEST[part] + 1]:
                with self.subTest(word=word, at=at, bad=bad):
                    self.refused(with_part(least(word), at, bad))

    def test_each_part_far_beyond_its_bounds(self):
        for word, at, part in self.parts_of_all():
            # Python shows no number of so many figures, so the refusal must not try to.
            for far in [10 ** 61, 10 ** 5000]:
                for sign in [1, -1]:
                    with self.subTest(word=word, at=at, sign=sign):
                        self.refused(with_part(least(word), at, sign * far))

    def test_parts_that_are_no_whole_numbers(self):
        for word, at, part in self.parts_of_all():
            for bad in [True, False, "0", "", "put", None, 0.0, 1.0, [0], (0,), {}, b"0"]:
                with self.subTest(word=word, at=at, bad=bad):
                    self.refused(with_part(least(word), at, bad))

    def test_a_part_more_and_a_part_less(self):
        for word in FORMS:
            told = least(word)
            for bad in [told + (0,), told + (0, 0), told + (None,), told + (word,), told[:-1]]:
                with self.subTest(bad=bad):
                    self.refused(bad)
            if len(told) > 2:
                self.refused(told[:1])

    def test_other_words(self):
        words = [
            "", "Put", "PUT", " put", "put ", "puts", "do", "carry", "step", "sets",
            None, 0, True, b"put", ("put",), ["put"], {}, 1.5, LikeAll(),
        ]
        for word in words:
            for parts in [(), (0,), (0, 0), (0, 0, 0)]:
                with self.subTest(word=word, parts=parts):
                    self.refused((word,) + parts)

    def test_the_word_stands_first(self):
        for word in FORMS:
            if len(least(word)) > 1:
                with self.subTest(word=word):
                    self.refused(least(word)[::-1])

    def test_a_list_in_the_place_of_the_tuple(self):
        for word in FORMS:
            with self.subTest(word=word):
                self.refused(list(least(word)))

    def test_an_empty_tuple(self):
        self.refused(())

    def test_what_is_no_tuple(self):
        for bad in [None, 0, 7, True, "", "clear", "put 0 0", [], {}, {"clear": 1}, 1.5, b"clear", object()]:
            with self.subTest(bad=bad):
                self.refused(bad)
        self.refused(step_of(("clear",)))
        self.refused((("clear",),))

    def test_a_refused_thing_is_not_changed(self):
        for bad in [["put", 0, [1]], ("put", 0, [1]), [["clear"]], {"clear": [0]}]:
            kept = copy.deepcopy(bad)
            self.refused(bad)
            self.assertEqual(bad, kept)

    def test_nexts_of_all_but_skip(self):
        for told in PLAIN:
            for place in [0, 1, 7, 11, 60, 119, 120]:
                with self.subTest(told=told, place=place):
                    self.assertEqual(step_of(told).nexts(place), [place + 1])

    def test_nexts_of_skip(self):
        cases = [
            # to a place before it
            (5, 0, [0, 6]), (5, 4, [4, 6]), (120, 0, [0, 121]), (120, 119, [119, 121]), (10, 9, [9, 11]),
            # to its own place
            (0, 0, [0, 1]), (7, 7, [7, 8]), (120, 120, [120, 121]),
            # to the next one
            (0, 1, [1]), (8, 9, [9]), (119, 120, [120]),
            # farther on
            (0, 2, [1, 2]), (0, 120, [1, 120]), (9, 10 + 90, [10, 100]), (118, 120, [119, 120]),
        ]
        for place, to, nexts in cases:
            with self.subTest(place=place, to=to):
                self.assertEqual(step_of(("skip", 0, to)).nexts(place), nexts)
                self.assertEqual(step_of(("skip", 3, to)).nexts(place), nexts)

    def test_nexts_of_skip_everywhere(self):
        for to in range(121):
            step = step_of(("skip", 1, to))
            for place in range(121):
                nexts = step.nexts(place)
                self.assertEqual(nexts, sorted({place + 1, to}))

    def test_nexts_is_a_new_list_each_time(self):
        for told in PLAIN + [("skip", 0, 3), ("skip", 0, 2)]:
            step = step_of(told)
            first = step.nexts(1)
            kept = list(first)
            self.assertIs(type(first), list)
            first.append(99)
            first[0] = -1
            with self.subTest(told=told):
                self.assertEqual(step.nexts(1), kept)
                self.assertEqual(step_of(told).nexts(1), kept)

    def test_told_is_the_same_behind_other_questions(self):
        for told in PLAIN + [("skip", 2, 3)]:
            step = step_of(told)
            step.nexts(0)
            step.nexts(120)
            step.sets()
            step.looks()
            step.empties()
            with self.subTest(told=told):
                self.assertEqual(step.told(), told)
                self.assertEqual(step.told(), told)

    def test_the_name_set(self):
        for name in range(12):
            for reg in range(4):
                self.assertEqual(step_of(("set", name, reg)).sets(), name)
                self.assertEqual(step_of(("swap", reg, name)).sets(), name)
                self.assertIsNone(step_of(("look", reg, name)).sets())
        for told in [("put", 0, 0), ("put", 1, 5), ("add", 0, 1), ("clear",), ("skip", 0, 0), ("skip", 2, 3)]:
            with self.subTest(told=told):
                self.assertIsNone(step_of(told).sets())

    def test_the_name_looked_at(self):
        for name in range(12):
            for reg in range(4):
                self.assertEqual(step_of(("look", reg, name)).looks(), name)
                self.assertEqual(step_of(("swap", reg, name)).looks(), name)
                self.assertIsNone(step_of(("set", name, reg)).looks())
        for told in [("put", 0, 0), ("put", 1, 5), ("add", 0, 1), ("clear",), ("skip", 0, 0), ("skip", 2, 3)]:
            with self.subTest(told=told):
                self.assertIsNone(step_of(told).looks())

    def test_whether_done_with_an_empty_tray_alone(self):
        for word in FORMS:
            with self.subTest(word=word):
                self.assertIs(step_of(least(word)).empties(), word in ("swap", "clear"))


if __name__ == "__main__":
    unittest.main()
