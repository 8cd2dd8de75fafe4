import random
import unittest

from helper import TOP, some_crossing_program, some_program
from traylate.clears import cleared
from traylate.desk import Desk
from traylate.errors import NoLine, NoMove, NoText, TrayError, Waiting
from traylate.machines import Machine
from traylate.orders import order
from traylate.papers import fault, marks
from traylate.texts import program_text, read_program

CROSSING = "clerk; put 0 7; set 0 0; look 1 1; clerk; set 1 0; look 1 0"
# All that a desk tells without being changed.
TELLING = ["moves", "deeds", "order", "marks", "fault", "board", "text"]
TELLING += ["registers 0", "registers 1", "registers 2", "registers 3"]
# Every row but program, with numbers that may or may not be of something there is.
ROWS = TELLING + ["do 0", "do 1", "carry 0 0", "carry 1 1", "run 0 1", "run 3 0", "settle", "clear"]


def text_of(program):
    return program_text(program).replace("\n", "; ")


def desk_with(text, *rows):
    desk = Desk()
    for row in ("program " + text,) + rows:
        desk.say(row)
    return desk


def answer(desk, row):
    """What the desk answers, or the refusal's class."""
    try:
        return desk.say(row)
    except TrayError as error:
        return type(error)


def told_by(desk):
    return [answer(desk, row) for row in TELLING]


class DeskCase(unittest.TestCase):
    def check(self, desk, row, expected):
        told = desk.say(row)
        self.assertIs(type(told), str)
        self.assertEqual(told, expected)

    def refused(self, desk, row, refusal):
        kept = told_by(desk)
        with self.assertRaises(refusal) as caught:
            desk.say(row)
        self.assertIs(type(caught.exception), refusal)
        self.assertEqual(told_by(desk), kept)
        return caught.exception


class ProgramTest(DeskCase):
    def test_a_new_machine(self):
        desk = Desk()
        self.check(desk, "program " + CROSSING, "ok")
        self.check(desk, "text", CROSSING)
        self.check(desk, "moves", "do 0; do 1")
        self.check(desk, "deeds", "none")
        self.check(desk, "board", "0 0 0 0 0 0 0 0 0 0 0 0")

    def test_another_program_in_its_place(self):
        desk = desk_with(CROSSING, "run 0 4")
        self.check(desk, "program clerk; put 3 4", "ok")
        self.check(desk, "text", "clerk; put 3 4")
        self.check(desk, "deeds", "none")
        self.check(desk, "run 0 9", "1")
        self.check(desk, "registers 0", "0 0 0 4")

    def test_the_same_program_again_is_a_new_machine(self):
        desk = desk_with(CROSSING, "run 0 4")
        new = told_by(desk_with(CROSSING))
        self.assertNotEqual(told_by(desk), new)
        self.check(desk, "program " + CROSSING, "ok")
        self.assertEqual(told_by(desk), new)

    def test_text_is_what_program_was_told(self):
        texts = [
            "clerk", "clerk; clerk; clerk; clerk", "clerk; clear", CROSSING, f"clerk; put 0 {TOP - 1}",
            "clerk; put 0 1; add 1 2; set 11 3; look 0 10; swap 3 9; clear; skip 2 7; clerk; skip 0 0",
            "clerk" + "; clear" * 120,
        ]
        for text in texts:
            desk = Desk()
            self.check(desk, "program " + text, "ok")
            self.check(desk, "text", text)

    def test_nothing_behind_it(self):
        for desk in [Desk(), desk_with(CROSSING, "run 0 3")]:
            self.refused(desk, "program", NoLine)
            self.refused(desk, "program ", NoText)
            self.refused(desk, "program  ", NoText)

    def test_a_text_that_is_none(self):
        texts = [
            " clerk", "clerk ", "clerk;", "clerk; ", "; clerk", "clerk;clear", "clerk;  clear", "clerk ; clear",
            "clerk; ; clear", "clerk,clear", "clerk\t", "Clerk", "0", "clear", "clear; clerk", "program clerk",
            "clerk; clerk; clerk; clerk; clerk", "clerk" + "; clear" * 121, "clerk; clear 0", "clerk; dance", "clerk; board",
            "clerk; put 4 0", "clerk; put 0 01", "clerk; put 0 +1", "clerk; put 0 -1", f"clerk; put 0 {TOP}",
            "clerk; put 0", "clerk; put 0 1 2", "clerk; set 12 0", "clerk; look 0 12", "clerk; skip 0 2",
            "clerk; put 0 " + "0" * 60, "clerk; put 0 " + "9" * 61, "clerk; put 0 " + "9" * 5000,
        ]
        for text in texts:
            with self.subTest(text=text[:60]):
                for desk in [Desk(), desk_with(CROSSING, "run 0 3")]:
                    self.refused(desk, "program " + text, NoText)

    def test_a_line_feed_in_it(self):
        texts = ["clerk\nclear", "clerk\n", "\nclerk", "clerk; clear\nclear", "clerk\n; clear", "clerk; \nclear", "\n"]
        for text in texts:
            with self.subTest(text=text):
                for desk in [Desk(), desk_with(CROSSING, "run 0 3")]:
                    self.refused(desk, "program " + text, NoText)

    def test_a_blank_ahead_or_another_sign_in_its_blanks_stead(self):
        for row in [" program clerk", "Program clerk", "program\nclerk", "program\tclerk", "programclerk", "program;"]:
            for desk in [Desk(), desk_with(CROSSING)]:
                self.refused(desk, row, NoLine)


class MovesTest(DeskCase):
    def test_a_run_move_by_move(self):
        desk = desk_with(CROSSING)
        self.check(desk, "do 0", "ok")
        self.check(desk, "registers 0", "7 0 0 0")
        self.check(desk, "do 0", "ok")
        self.check(desk, "moves", "do 0; do 1; carry 0 0")
        self.check(desk, "board", "0 0 0 0 0 0 0 0 0 0 0 0")
        self.check(desk, "carry 0 0", "ok")
        self.check(desk, "board", "7 0 0 0 0 0 0 0 0 0 0 0")
        self.check(desk, "moves", "do 0; do 1")
        self.check(desk, "do 1", "ok")
        self.check(desk, "do 1", "ok")
        self.check(desk, "do 0", "ok")
        self.check(desk, "registers 1", "0 7 0 0")
        self.check(desk, "moves", "carry 1 1")
        self.check(desk, "deeds", "set 0 0 - 7 -; set 1 1 - 0 -; look 1 0 7 - 0; look 0 1 0 - -")
        self.check(desk, "settle", "1")
        self.check(desk, "moves", "none")
        self.check(desk, "order", "row 0 3 1 2")
        self.check(desk, "settle", "0")

    def test_the_trays_are_of_the_kind_row(self):
        desk = desk_with("clerk; set 5 0; set 3 0", "do 0", "do 0")
        self.check(desk, "moves", "carry 0 5")
        self.refused(desk, "carry 0 3", NoMove)
        self.check(desk, "settle", "2")

    def test_moves_that_may_not_be_made(self):
        desk = desk_with("clerk; set 3 0; clear; clerk", "do 0")
        for row in ["do 0", "do 1", "carry 0 4", "carry 1 3", "carry 0 2"]:
            self.refused(desk, row, NoMove)
        self.check(desk, "carry 0 3", "ok")
        self.refused(desk, "carry 0 3", NoMove)
        self.check(desk, "do 0", "ok")
        self.refused(desk, "do 0", NoMove)

    def test_clerks_and_names_that_there_are_none(self):
        desk = desk_with(CROSSING, "do 1")
        great = "9" * 60
        rows = [f"carry {great} 0", f"carry 1 {great}", f"carry {great} {great}", f"do {great}"]
        for row in rows + ["do 2", "do 3", "do 4", "do 12", "carry 2 0", "carry 0 12", "carry 1 12", "carry 4 1"]:
            self.refused(desk, row, NoMove)

    def test_no_moves_and_no_deeds(self):
        desk = desk_with("clerk; clerk")
        self.check(desk, "moves", "none")
        self.check(desk, "deeds", "none")
        self.check(desk, "settle", "0")
        self.check(desk, "order", "row")

    def test_moves_by_clerk_and_name(self):
        desk = desk_with("; ".join(["clerk; set 11 0; put 0 1"] * 4), "do 3", "do 1")
        self.check(desk, "moves", "do 0; do 1; do 2; do 3; carry 1 11; carry 3 11")


class RunTest(DeskCase):
    def test_the_move_at_the_place(self):
        desk = desk_with("clerk; put 0 1; clerk; put 0 1; clerk; put 0 1")
        self.check(desk, "run 1 1", "1")
        self.check(desk, "moves", "do 0; do 2")
        self.check(desk, "run 5 1", "1")
        self.check(desk, "moves", "do 0")
        self.check(desk, "run 5 1", "1")
        self.check(desk, "moves", "none")

    def test_the_pick_is_taken_anew_by_how_many_there_are(self):
        # 4 of three moves is the second, 4 of two the first: clerks 1, 0, 2.
        desk = desk_with("clerk; look 0 0; clerk; look 0 1; clerk; look 0 2")
        self.check(desk, "run 4 2", "2")
        self.check(desk, "deeds", "look 1 1 0 - -; look 0 0 0 - -")

    def test_carries_are_among_them(self):
        desk = desk_with(CROSSING, "do 0", "do 0")
        self.check(desk, "run 2 1", "1")
        self.check(desk, "moves", "do 0; do 1")
        self.check(desk, "board", "7 0 0 0 0 0 0 0 0 0 0 0")

    def test_nought_moves_at_most(self):
        desk = desk_with(CROSSING, "do 0", "do 0")
        kept = told_by(desk)
        for pick in ["0", "1", "9" * 60]:
            self.check(desk, f"run {pick} 0", "0")
        self.assertEqual(told_by(desk), kept)

    def test_till_none_may_be_made(self):
        for pick in ["0", "1", "2", "77", "9" * 60]:
            for most in ["7", "8", "1000", "9" * 60]:
                desk = desk_with(CROSSING)
                self.check(desk, f"run {pick} {most}", "7")
                self.check(desk, "moves", "none")
                self.check(desk, f"run {pick} {most}", "0")
        desk = desk_with(CROSSING)
        self.check(desk, "run 0 6", "6")
        self.check(desk, "moves", "carry 1 1")

    def test_where_no_move_may_be_made(self):
        desk = desk_with("clerk")
        self.check(desk, "run 0 5", "0")
        self.check(desk, "run 3 " + "9" * 60, "0")

    def test_great_picks(self):
        desk, machine = desk_with(CROSSING), Machine(read_program(CROSSING.replace("; ", "\n")))
        pick = 10 ** 60 - 59
        for made in range(7):
            self.check(desk, f"run {pick} 1", "1")
            moves = machine.moves()
            machine.do(moves[pick % len(moves)])
            self.check(desk, "moves", "; ".join(" ".join(map(str, move)) for move in machine.moves()) or "none")

    def test_ten_thousand_moves(self):
        text = "; ".join(["clerk; look 0 1; put 1 1; add 0 1; set 0 0; set 1 0; swap 2 2; skip 3 0"] * 4)
        desk, machine = desk_with(text), Machine(read_program(text.replace("; ", "\n")))
        self.check(desk, "run 5 10000", "10000")
        for made in range(10000):
            moves = machine.moves()
            machine.do(moves[5 % len(moves)])
        self.check(desk, "settle", str(len(machine.settle())))
        self.check(desk, "board", " ".join(str(number) for number in machine.board()))
        self.assertEqual(desk.say("order").split(" ")[0], order(machine)[0])

    def test_ten_thousand_moves_with_a_tray_that_grows(self):
        desk = desk_with("clerk; set 0 0; set 1 0; skip 3 0; clerk; look 0 0; skip 3 0")
        self.check(desk, "run 0 9000", "9000")
        self.check(desk, "run 1 1000", "1000")
        self.check(desk, "settle", "6000")
        numbers = desk.say("order").split(" ")
        self.assertEqual((numbers[0], len(numbers)), ("row", 6501))


class TellTest(DeskCase):
    def test_deeds(self):
        top = str(TOP - 1)
        desk = desk_with(f"clerk; put 0 {top}; swap 0 11; swap 0 11; set 3 0; look 1 3; clerk; look 2 11", "do 1", "run 0 9")
        deeds = ["look 1 11 0 - -", f"swap 0 11 0 {top} -", f"swap 0 11 {top} 0 1", f"set 0 3 - {top} -", f"look 0 3 {top} - 3"]
        self.check(desk, "deeds", "; ".join(deeds))

    def test_order_a_row(self):
        desk = desk_with(CROSSING)
        self.check(desk, "order", "row")
        desk.say("do 1")
        desk.say("carry 1 1")
        self.check(desk, "order", "row 0")
        desk.say("run 0 99")
        # Clerk 1's look, done while clerk 0's set waited, stands ahead of it.
        self.check(desk, "order", "row 0 3 1 2")

    def test_order_a_ring(self):
        desk = desk_with(CROSSING, "do 0", "do 0", "do 0", "do 1", "do 1")
        desk.say("settle")
        words = desk.say("order").split(" ")
        self.assertEqual(words[0], "ring")
        pairs = set(zip(words[1::2], words[2::2]))
        self.assertEqual(pairs, {("0", "own"), ("1", "ahead"), ("2", "own"), ("3", "ahead")})
        self.assertEqual(len(words), 9)

    def test_order_with_something_waiting(self):
        for clerk in range(4):
            desk = desk_with("; ".join(["clerk; set 3 0"] * 4), "do 3", f"do {clerk}" if clerk < 3 else "board")
            self.assertEqual(self.refused(desk, "order", Waiting).clerk, clerk)
            desk.say("settle")
            self.assertNotEqual(desk.say("order"), "row")

    def test_marks(self):
        self.check(desk_with(CROSSING), "marks", "0 0 1 1; 0 2 2")
        self.check(desk_with("clerk"), "marks", "0")
        self.check(desk_with("clerk; clerk; clerk; set 11 0; set 10 0; clear"), "marks", "0; 0; 0 2048 3072 0")

    def test_marks_and_fault_are_the_programs_wherever_the_machine_is(self):
        desk = desk_with(CROSSING)
        for row in ["board", "run 0 3", "settle", "run 0 99"]:
            desk.say(row)
            self.check(desk, "marks", "0 0 1 1; 0 2 2")
            self.check(desk, "fault", "look 0 2 0")

    def test_fault(self):
        self.check(desk_with("clerk"), "fault", "none")
        self.check(desk_with("clerk; clerk; set 1 0; look 1 0; clerk; set 4 0; set 0 0; swap 0 1"), "fault", "look 1 1 1")
        # By the kind "row": two names may be set behind one another.
        self.check(desk_with("clerk; set 0 0; set 1 0; clerk; look 0 1"), "fault", "none")

    def test_registers(self):
        desk = desk_with(f"clerk; put 3 {TOP - 1}; clerk; put 0 5; add 1 0; add 1 0")
        self.check(desk, "registers 0", "0 0 0 0")
        desk.say("run 0 9")
        self.check(desk, "registers 0", f"0 0 0 {TOP - 1}")
        self.check(desk, "registers 1", "5 10 0 0")

    def test_registers_of_a_clerk_that_there_is_none(self):
        for many in [1, 2, 3, 4]:
            desk = desk_with("; ".join(["clerk; put 0 1"] * many), "run 0 1")
            self.assertEqual(desk.say(f"registers {many - 1}").split(" ")[1:], ["0", "0", "0"])
            for clerk in [many, many + 1, 12, 10 ** 59]:
                self.refused(desk, f"registers {clerk}", NoLine)

    def test_board(self):
        desk = desk_with(f"clerk; put 0 {TOP - 1}; set 11 0; put 0 4; set 0 0", "run 0 5")
        self.check(desk, "board", f"0 0 0 0 0 0 0 0 0 0 0 {TOP - 1}")
        desk.say("settle")
        self.check(desk, "board", f"4 0 0 0 0 0 0 0 0 0 0 {TOP - 1}")

    def test_settle(self):
        desk = desk_with("; ".join(["clerk; set 3 0; set 4 0; set 3 0"] * 3), "run 0 8")
        self.check(desk, "settle", "8")
        self.check(desk, "moves", "do 2")


class ClearTest(DeskCase):
    def test_how_many_clears_were_put_in(self):
        desk = desk_with(CROSSING, "run 0 4")
        self.check(desk, "clear", "2")
        text = "clerk; put 0 7; set 0 0; clear; look 1 1; clerk; set 1 0; clear; look 1 0"
        self.check(desk, "text", text)
        self.assertEqual(told_by(desk), told_by(desk_with(text)))
        self.check(desk, "fault", "none")
        self.check(desk, "deeds", "none")

    def test_where_none_is_put_in_the_machine_is_new_still(self):
        desk = desk_with(CROSSING, "clear", "run 0 4")
        new = told_by(desk_with(desk.say("text")))
        self.assertNotEqual(told_by(desk), new)
        self.check(desk, "clear", "0")
        self.assertEqual(told_by(desk), new)
        self.check(desk_with("clerk"), "clear", "0")

    def test_sixty_steps_and_sixty_one(self):
        looks = "; look 1 1"
        for other in ["clerk; set 1 0", "clerk; set 1 0" + "; clear" * 59]:
            desk = desk_with("clerk; set 0 0" + looks * 59 + "; " + other)
            self.check(desk, "clear", "59")
            self.assertEqual(desk.say("text"), "clerk; set 0 0" + ("; clear" + looks) * 59 + "; " + other)
            # The cleared one has more than sixty steps.
            self.refused(desk, "clear", NoLine)
        texts = [
            "clerk; set 0 0" + looks * 60 + "; clerk; set 1 0", "clerk" + "; clear" * 61, "clerk" + "; clear" * 120,
            "clerk; clerk; clerk" + "; clear" * 61 + "; clerk", "clerk; clerk; clerk; clerk" + "; clear" * 61,
        ]
        for text in texts:
            desk = desk_with(text, "run 0 3")
            self.refused(desk, "clear", NoLine)
            self.check(desk, "text", text)

    def test_sixty_steps_in_each_of_four_parts(self):
        desk = desk_with("; ".join(["clerk" + "; clear" * 60] * 4))
        self.check(desk, "clear", "0")


class NoLineTest(DeskCase):
    def desks(self):
        amid, ended = desk_with(CROSSING, "run 2 3"), desk_with(CROSSING, "run 0 99")
        return [Desk(), desk_with(CROSSING), amid, ended, desk_with("clerk")]

    def check_no_line(self, row):
        with self.subTest(row=row):
            for desk in self.desks():
                self.refused(desk, row, NoLine)

    def test_a_new_desk(self):
        for row in ROWS + ["do 9", "carry 9 99", "registers 9", "run 5 5", "order"]:
            desk = Desk()
            with self.assertRaises(NoLine):
                desk.say(row)
            self.assertEqual(told_by(desk), [NoLine] * len(TELLING))

    def test_a_new_desk_is_none_the_worse_for_refusals(self):
        desk = Desk()
        for row in ROWS + ["program", "program x", None]:
            self.assertIn(answer(desk, row), [NoLine, NoText])
        self.check(desk, "program " + CROSSING, "ok")
        self.assertEqual(told_by(desk), told_by(desk_with(CROSSING)))

    def test_things_that_are_no_text(self):
        for thing in [None, 0, 5, True, b"board", ["board"], ("board",), {}, {"board": 1}, object(), 1.5]:
            self.check_no_line(thing)

    def test_other_words(self):
        rows = [
            "", "x", "Board", "BOARD", "boards", "boar", "help", "put 0 1", "clerk", "none", "ok", "row", "ring", "0", "-",
            ";", "clears", "cleared", "ends", "before", "replay", "where 0", "waiting 0", "register 0", "program:",
        ]
        for row in rows:
            self.check_no_line(row)

    def test_words_too_many_or_too_few(self):
        for row in ["do", "carry", "carry 0", "run", "run 0", "registers"]:
            self.check_no_line(row)
        for row in ROWS:
            self.check_no_line(row + " 0")
            self.check_no_line(row + " x")
            self.check_no_line(row + " " + row)
        for row in ["board 1", "text 0 0", "do 0 0", "carry 0 0 0", "run 0 0 0", "registers 0 0", "moves 0", "settle 1"]:
            self.check_no_line(row)

    def test_blanks_and_line_feeds(self):
        for row in ROWS:
            bad_rows = [" " + row, row + " ", row + "\n", "\n" + row, row + "\t", row + ";", row + "; ", row + "; board"]
            bad_rows += [row + "\nboard"] + [row.replace(" ", sign) for sign in ["  ", "\t", "\n", "", "_"]]
            for bad in bad_rows:
                if bad != row:
                    self.check_no_line(bad)
        for row in [" ", "  ", "\n", "\t", "do  0", "carry 0  0", "do \n", "do \t0"]:
            self.check_no_line(row)

    def test_numbers_that_are_none(self):
        numbers = [
            "00", "01", "+0", "+1", "-0", "-1", "0x0", "1_0", "0.0", "1e1", "x", "-", "a0", "0a", "", " 0", "0 ", "0\n",
            "True", "None", "1" * 61, "0" * 60, "0" * 61, "9" * 5000,
        ]
        for number in numbers:
            for form in ["do {}", "carry {} 0", "carry 0 {}", "run {} 0", "run 0 {}", "registers {}"]:
                self.check_no_line(form.replace("{}", number))

    def test_numbers_of_sixty_figures_and_of_sixty_one(self):
        desk = desk_with(CROSSING)
        for figures in ["1" + "0" * 59, "9" * 60]:
            self.check(desk, f"run {figures} 0", "0")
            self.refused(desk, f"do {figures}", NoMove)
            self.refused(desk, f"carry 0 {figures}", NoMove)
            self.refused(desk, f"registers {figures}", NoLine)
            for form in ["run {} 0", "run 0 {}", "do {}", "carry 0 {}", "carry {} 0", "registers {}"]:
                row = form.replace("{}", figures + "0")
                self.refused(desk, row, NoLine)


class ChanceTest(DeskCase):
    def expected(self, machine):
        """What a machine of the same stand lets expect, for each row of TELLING."""
        def rows(things):
            shown = [" ".join("-" if part is None else str(part) for part in thing) for thing in things]
            return "; ".join(shown) or "none"
        program = machine.program
        answers = [rows(machine.moves()), rows(machine.deeds())]
        try:
            told = order(machine)
            flat = told[1] if told[0] == "row" else [part for pair in told[1] for part in pair]
            answers.append(" ".join(str(part) for part in [told[0]] + flat))
        except Waiting:
            answers.append(Waiting)
        answers += [rows(marks(program)), rows([fault(program, marks(program)) or ("none",)]), rows([machine.board()])]
        answers.append(text_of(program))
        return answers + [rows([machine.registers(c)]) if c < len(program) else NoLine for c in range(4)]

    def test_as_a_machine_beside_it(self):
        chance = random.Random(33)
        found = {}
        for turn in range(120):
            program = [some_program, some_crossing_program][turn % 2](chance)
            desk, machine = desk_with(text_of(program)), Machine(program)
            self.assertEqual(told_by(desk), self.expected(machine))
            for made in range(15):
                word = chance.choice(["do", "do", "carry", "run"] + ["settle", "clear"] * (made % 5 == 0))
                numbers = {"do": [chance.randrange(5)], "carry": [chance.randrange(4), chance.randrange(4)],
                           "run": [chance.randrange(30), chance.randrange(6)]}.get(word, [])
                told = answer(desk, " ".join([word] + [str(number) for number in numbers]))
                if word in ("do", "carry"):
                    move = (word,) + tuple(numbers)
                    self.assertEqual(told, "ok" if move in machine.moves() else NoMove)
                    if told == "ok":
                        machine.do(move)
                elif word == "run":
                    many = 0
                    while many < numbers[1] and machine.moves():
                        moves = machine.moves()
                        machine.do(moves[numbers[0] % len(moves)])
                        many += 1
                    self.assertEqual(told, str(many))
                elif word == "settle":
                    self.assertEqual(told, str(len(machine.settle())))
                else:
                    before = sum(len(part) for part in machine.program)
                    machine = Machine(cleared(machine.program))
                    self.assertEqual(told, str(sum(len(part) for part in machine.program) - before))
                key = (word, told if told in ("ok", NoMove) else told != "0")
                found[key] = found.get(key, 0) + 1
                self.assertEqual(told_by(desk), self.expected(machine))
        wanted = [(word, told) for word in ["do", "carry"] for told in ["ok", NoMove]]
        wanted += [(word, many) for word in ["run", "settle", "clear"] for many in [True, False]]
        self.assertEqual(set(found), set(wanted))
        self.assertGreater(min(found.values()), 10)

    def test_two_desks_keep_apart(self):
        one, other = desk_with(CROSSING), desk_with(CROSSING)
        kept = told_by(other)
        for row in ["run 0 3", "settle", "clear", "program clerk"]:
            one.say(row)
            self.assertEqual(told_by(other), kept)


if __name__ == "__main__":
    unittest.main()
