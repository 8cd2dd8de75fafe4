"""Programs as texts: shown, and read again."""

from traylate.errors import NoClerks, NoProgram, NoText
from traylate.programs import look_over

HEAD = "clerk"
FIGURES = "0123456789"
# A number below TOP has no more figures than this.
MOST_FIGURES = 60


def row_of(told):
    return " ".join([str(part) for part in told])


def program_text(program):
    rows = []
    for part in program:
        rows.append(HEAD)
        rows.extend([row_of(told) for told in part])
    return "\n".join(rows)


def is_number(word):
    # The length is asked first: Python reads no number of some thousands of figures.
    if not 1 <= len(word) <= MOST_FIGURES:
        return False
    if word[0] == "0" and len(word) > 1:
        return False
    return all([sign in FIGURES for sign in word])


def number_of(word):
    return int(word) if is_number(word) else None


def told_of(row):
    words = row.split(" ")
    # What is no number stands as None, with which no step is told.
    return tuple(words[:1] + [number_of(word) for word in words[1:]])


def parts_of(rows):
    parts = []
    for row in rows:
        if row == HEAD:
            parts.append([])
        elif len(parts) == 0:
            raise NoText("ahead of the first clerk stands something else")
        else:
            parts[-1].append(told_of(row))
    return tuple([tuple(part) for part in parts])


def read_program(text):
    if not isinstance(text, str):
        raise NoText("this is no text")
    program = parts_of(text.split("\n"))
    try:
        look_over(program)
    except NoClerks:
        raise NoText("this text has not one to four clerks") from None
    except NoProgram:
        raise NoText("this text has a row that is no step, or none of its part") from None
    return program
