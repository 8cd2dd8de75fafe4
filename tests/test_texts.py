import copy
import unittest

from traylate.errors import NoText
from traylate.texts import program_text, read_program

TOP = 10 ** 60
CLEAR = ("clear",)
ALL_WORDS = (
    ("put", 0, TOP - 1), ("add", 1, 1), ("set", 11, 3), ("look", 3, 11), ("swap", 0, 10), ("clear",), ("skip", 2, 7),
)
ALL_ROWS = ["clerk", "put 0 " + "9" * 60, "add 1 1", "set 11 3", "look 3 11", "swap 0 10", "clear", "skip 2 7"]

# A program and its text, to the letter.
SHOWN = [
    (((),), "clerk"),
    (((), ()), "clerk\nclerk"),
    (((), (), ()), "clerk\nclerk\nclerk"),
    (((), (), (), ()), "clerk\nclerk\nclerk\nclerk"),
    (((CLEAR,),), "clerk\nclear"),
    (((("put", 0, 0),),), "clerk\nput 0 0"),
    (((("put", 3, 7),), (CLEAR,)), "clerk\nput 3 7\nclerk\nclear"),
    (((), (("look", 1, 10),), (), (("skip", 0, 0),)), "clerk\nclerk\nlook 1 10\nclerk\nclerk\nskip 0 0"),
    (((("skip", 0, 1),),), "clerk\nskip 0 1"),
    (((CLEAR, ("skip", 3, 3), CLEAR),), "clerk\nclear\nskip 3 3\nclear"),
    (((("put", 1, TOP - 1), ("put", 2, 10 ** 59)),), "clerk\nput 1 " + "9" * 60 + "\nput 2 1" + "0" * 59),
    ((ALL_WORDS,), "\n".join(ALL_ROWS)),
    ((ALL_WORDS,) * 4, "\n".join(ALL_ROWS * 4)),
    (((CLEAR,) * 120,), "clerk" + "\nclear" * 120),
    (((("skip", 1, 120),) * 120, ()), "clerk" + "\nskip 1 120" * 120 + "\nclerk"),
]


class Listlike(list):
    pass


class TextsTest(unittest.TestCase):
    def refused(self, text):
        with self.assertRaises(NoText) as caught:
            read_program(text)
        self.assertIs(type(caught.exception), NoText)

    def refused_rows(self, *rows):
        with self.subTest(rows=rows):
            self.refused("\n".join(rows))

    def test_shown_to_the_letter(self):
        for program, text in SHOWN:
            with self.subTest(text=text):
                self.assertEqual(program_text(program), text)

    def test_read_again_the_same_program(self):
        for program, text in SHOWN:
            with self.subTest(text=text):
                again = read_program(text)
                self.assertEqual(again, program)
                self.assertIs(type(again), tuple)
                for part in again:
                    self.assertIs(type(part), tuple)
                    for told in part:
                        self.assertIs(type(told), tuple)
                        self.assertIs(type(told[0]), str)
                        self.assertTrue(all(type(number) is int for number in told[1:]))

    def test_each_word_with_its_least_and_greatest_numbers(self):
        forms = {
            "put": [3, TOP - 1], "add": [3, 3], "set": [11, 3], "look": [3, 11], "swap": [3, 11], "clear": [], "skip": [3, 1],
        }
        for word, greatest in forms.items():
            for numbers in [[0] * len(greatest), greatest]:
                text = " ".join([word] + [str(number) for number in numbers])
                program = (((word,) + tuple(numbers),),)
                with self.subTest(text=text):
                    self.assertEqual(program_text(program), "clerk\n" + text)
                    self.assertEqual(read_program("clerk\n" + text), program)
            for at, most in enumerate(greatest):
                numbers = [0] * len(greatest)
                numbers[at] = most + 1
                self.refused_rows("clerk", " ".join([word] + [str(number) for number in numbers]))

    def test_words_of_other_spelling(self):
        for word in ["Put", "PUT", "puts", "pu", "put:", "0", "clerk", "clear", "dance", ""]:
            self.refused_rows("clerk", word + " 0 0")
        for word in ["Clear", "CLEAR", "clea", "clears", "cleared", "c", "7"]:
            self.refused_rows("clerk", word)
        for word in ["Clerk", "CLERK", "clerks", "cler", "clerk:", "clerk 0", "clerk clear"]:
            self.refused_rows(word, "clear")
            self.refused_rows("clerk", word, "clear")

    def test_a_word_left_out_or_put_in(self):
        for row in ALL_ROWS[1:]:
            words = row.split(" ")
            for at in range(len(words) + 1):
                for more in ["0", "1", "put", "x", "-"]:
                    self.refused_rows("clerk", " ".join(words[:at] + [more] + words[at:]))
            for at in range(len(words)):
                if len(words) > 1:
                    self.refused_rows("clerk", " ".join(words[:at] + words[at + 1:]))

    def test_words_exchanged(self):
        for row in ALL_ROWS[1:]:
            words = row.split(" ")
            if len(words) == 3:
                self.refused_rows("clerk", " ".join([words[1], words[0], words[2]]))
                self.refused_rows("clerk", " ".join(words[::-1]))
        self.refused_rows("clerk", "set 3 11")
        self.refused_rows("clerk", "look 11 3")
        self.refused_rows("clerk", "swap 10 0")
        self.refused_rows("clerk", "put 9 0")
        self.refused_rows("clerk", "skip 7 2")

    def test_numbers_in_another_form(self):
        for bad in [
            "00", "01", "007", "+0", "-0", "+1", "-1", "1_0", "1_000", "_1", "1_", "0x1", "1.0", "1e3", "1,0", "one",
            "None", "True", "", "''", "0 ", " 0", "0\t", "1\r", "0" * 60, "0" * 61, "\u0661", "\u00b2",
        ]:
            self.refused_rows("clerk", "put 0 " + bad)
            self.refused_rows("clerk", "put " + bad + " 0")

    def test_numbers_of_too_many_figures(self):
        for bad in [
            str(TOP), str(TOP + 1), "9" * 61, "1" * 100, "1" * 4300, "1" * 4301, "1" * 9000, "0" * 9000,
            "0" * 5000 + "1", "-" + "1" * 9000, "1" * 5000 + "x", "1" + "_1" * 5000,
        ]:
            for row in ["put 0 " + bad, "put " + bad + " 0", "skip 0 " + bad, "look 0 " + bad, "set " + bad + " 0"]:
                self.refused_rows("clerk", row)

    def test_blanks(self):
        for row in ["put  0 0", "put 0  0", " put 0 0", "put 0 0 ", "put 0 0  ", " clear", "clear ", "put\t0 0",
                    "put 0\t0", "put 0 0\t", "\tclear", "clear\t", "put\u00a00 0", " ", "  ", "\t", "put", "put 0", "put "]:
            self.refused_rows("clerk", row)
            self.refused_rows("clerk", row, "clear")
        for row in [" clerk", "clerk ", "clerk\t", "\tclerk", "  clerk", "clerk  "]:
            self.refused_rows(row)
            self.refused_rows(row, "clear")
            self.refused_rows("clerk", "clear", row)

    def test_empty_rows_and_row_ends(self):
        self.refused("")
        self.refused("\n")
        for program, text in SHOWN:
            with self.subTest(text=text):
                self.refused(text + "\n")
                self.refused("\n" + text)
                self.refused(text + "\n\n")
                self.refused(text + "\r")
                self.refused(text + "\r\n")
                self.refused("\r" + text)
                self.refused(text + " ")
                self.refused(" " + text)
                if "\n" in text:
                    self.refused(text.replace("\n", "\n\n", 1))
                    self.refused(text.replace("\n", "\r\n"))
                    self.refused(text.replace("\n", "\r"))
                    self.refused(text.replace("\n", "; "))
                    self.refused(text.replace("\n", " "))
                    self.refused(text.replace("\n", "\v"))
                    self.refused(text.replace("\n", "\f"))

    def test_the_first_row_is_clerk(self):
        self.refused_rows("clear")
        self.refused_rows("put 0 0", "clerk")
        self.refused_rows("clear", "clerk", "clear")
        self.refused_rows("program", "clerk", "clear")

    def test_five_parts(self):
        self.refused_rows(*["clerk"] * 5)
        self.refused_rows(*["clerk"] * 6)
        self.refused_rows(*["clerk", "clear"] * 5)
        self.refused_rows(*["clerk"] * 1000)

    def test_a_part_of_121_steps(self):
        self.refused_rows(*["clerk"] + ["clear"] * 121)
        self.refused_rows(*["clerk"] + ["clear"] * 500)
        self.refused_rows(*["clerk", "clear", "clerk"] + ["clear"] * 121)
        self.refused_rows(*["clerk"] + ["clear"] * 121 + ["clerk"])

    def test_a_skip_beyond_the_parts_length(self):
        self.refused_rows("clerk", "skip 0 2")
        self.refused_rows("clerk", "clear", "skip 0 4", "clear")
        self.refused_rows("clerk", "skip 0 2", "clerk", "clear", "clear")
        self.refused_rows("clerk", "clear", "clear", "clerk", "skip 0 2")
        self.refused_rows(*["clerk"] + ["skip 0 120"] * 119)
        self.refused_rows("clerk", "skip 0 121")

    def test_what_is_no_text(self):
        for bad in [None, 0, 7, True, False, 1.5, [], ["clerk"], (), {}, b"clerk", object(), Listlike(["clerk"])]:
            with self.subTest(bad=bad):
                self.refused(bad)
        for program, text in SHOWN:
            self.refused(program)
            self.refused(text.split("\n"))

    def test_what_is_read_is_shown_as_just_this_text(self):
        # Each text one sign away is either refused or is the very text of what it is read as.
        text = "clerk\nput 0 10\nskip 1 2\nclerk\nclear"
        for at in range(len(text) + 1):
            for sign in ["", "0", "1", "2", " ", "\n", "\r", "\t", "_", "-", "+", "c", "r"]:
                for other in [text[:at] + sign + text[at:], text[:at] + sign + text[at + 1:]]:
                    with self.subTest(other=other):
                        try:
                            program = read_program(other)
                        except NoText:
                            continue
                        self.assertEqual(program_text(program), other)

    def test_nothing_handed_in_is_changed(self):
        program = copy.deepcopy(SHOWN[-3][0])
        program_text(program)
        self.assertEqual(program, SHOWN[-3][0])
        rows = ["clerk", "clear"]
        self.refused(rows)
        self.assertEqual(rows, ["clerk", "clear"])


if __name__ == "__main__":
    unittest.main()
