"""The desk: a program and a machine of it, asked and moved by rows of text."""

from traylate.clears import cleared
from traylate.errors import NoLine, NoText
from traylate.machines import Machine
from traylate.orders import order
from traylate.papers import fault, marks
from traylate.texts import number_of, program_text, read_program, row_of

HEAD = "program "
# For each row the word that it begins with, and how many numbers stand behind it.
NUMBERS = {
    "do": 1, "carry": 2, "run": 2, "settle": 0, "moves": 0, "deeds": 0, "order": 0,
    "marks": 0, "fault": 0, "clear": 0, "board": 0, "registers": 1, "text": 0,
}
BETWEEN = "; "
MOST_TO_CLEAR = 60


def program_of(text):
    # A line feed of its own would be held for one that was put in here.
    if "\n" in text:
        raise NoText("a line feed stands in the text")
    return read_program(text.replace(BETWEEN, "\n"))


def text_of(program):
    return program_text(program).replace("\n", BETWEEN)


def numbers_of(words):
    numbers = [number_of(word) for word in words[1:]]
    if NUMBERS.get(words[0]) != len(numbers) or None in numbers:
        raise NoLine("there is no such row")
    return numbers


def listed_rows(things):
    return BETWEEN.join([row_of(thing) for thing in things]) if len(things) > 0 else "none"


def shown_deed(deed):
    return ["-" if part is None else part for part in deed]


def order_text(machine):
    told = order(machine)
    words = [told[0]]
    if told[0] == "row":
        words.extend(told[1])
    else:
        for number, why in told[1]:
            words.extend([number, why])
    return row_of(words)


def fault_text(program):
    found = fault(program, marks(program))
    return "none" if found is None else row_of(found)


def registers_text(machine, clerk):
    if clerk >= len(machine.program):
        raise NoLine("there is no such clerk")
    return row_of(machine.registers(clerk))


def run_on(machine, pick, most):
    made = 0
    moves = machine.moves()
    while made < most and len(moves) > 0:
        machine.do(moves[pick % len(moves)])
        made += 1
        moves = machine.moves()
    return made


def steps_in(program):
    return sum([len(part) for part in program])


def answer_of(machine, word, numbers):
    if word == "do" or word == "carry":
        machine.do(tuple([word] + numbers))
        return "ok"
    if word == "run":
        return str(run_on(machine, numbers[0], numbers[1]))
    if word == "settle":
        return str(len(machine.settle()))
    if word == "moves":
        return listed_rows(machine.moves())
    if word == "deeds":
        return listed_rows([shown_deed(deed) for deed in machine.deeds()])
    if word == "order":
        return order_text(machine)
    if word == "marks":
        return listed_rows(marks(machine.program))
    if word == "fault":
        return fault_text(machine.program)
    if word == "board":
        return row_of(machine.board())
    if word == "registers":
        return registers_text(machine, numbers[0])
    return text_of(machine.program)


class Desk:
    def __init__(self):
        # It has the program as well; None where there is none yet.
        self.machine = None

    def say(self, row):
        if not isinstance(row, str):
            raise NoLine("this is no text")
        if row.startswith(HEAD):
            self.machine = Machine(program_of(row[len(HEAD):]))
            return "ok"
        words = row.split(" ")
        numbers = numbers_of(words)
        if self.machine is None:
            raise NoLine("there is no program yet")
        if words[0] == "clear":
            return self.put_in_clears()
        return answer_of(self.machine, words[0], numbers)

    def put_in_clears(self):
        program = self.machine.program
        if max([len(part) for part in program]) > MOST_TO_CLEAR:
            raise NoLine("a part has too many steps to be cleared")
        self.machine = Machine(cleared(program))
        return str(steps_in(self.machine.program) - steps_in(program))
