"""Rows of code: which values are rows, their texts, and rows that are cut."""

from mostlaid.errors import BadText
from mostlaid.ratios import below, minus, number_text, pair, plus, read_number, times
from mostlaid.setups import is_tuple_of

HIGH = "high"
GO = "go"
LAY = "lay"
NUMBERS_OF = {"high": 1, "go": 2, "lay": 2}

FORM = "form"
END = "end"


def is_row(setup, value):
    """Whether any value is a row of code for a setup."""
    if not isinstance(value, tuple) or not value:
        return False
    word, numbers = value[0], value[1:]
    if word == HIGH:
        return is_tuple_of(numbers, 1) and is_height(setup, numbers[0])
    return (word == GO or word == LAY) and is_tuple_of(numbers, 2)


def is_height(setup, z):
    """Whether a number is a height from the bed to the top of the highest layer."""
    return not below(pair(z), (0, 1)) and not below(setup.heights[-1], pair(z))


def row_text(row):
    """The line of a row, with its line feed."""
    words = [row[0]] + [number_text(number) for number in row[1:]]
    return " ".join(words) + "\n"


def write_code(code):
    """The text of a list of rows."""
    return "".join([row_text(row) for row in code])


def read_line(line):
    """The row of a line without its line feed, or None if it does not have the form."""
    words = line.split(" ")
    numbers = [read_number(word) for word in words[1:]]
    if words[0] not in NUMBERS_OF or len(numbers) != NUMBERS_OF[words[0]] or None in numbers:
        return None
    return (words[0],) + tuple(numbers)


def read_code(text):
    """The list of rows of a text, with tuples for numbers."""
    if not isinstance(text, str):
        raise BadText(0, FORM)
    lines = text.split("\n")
    rows = []
    for at, line in enumerate(lines[:-1]):
        row = read_line(line)
        if row is None:
            raise BadText(at, FORM)
        rows.append(row)
    # What stands behind the last line feed is a line without one, unless nothing does.
    if lines[-1]:
        raise BadText(len(rows), FORM if read_line(lines[-1]) is None else END)
    return rows


def read_row(text):
    """The row of the text of one line, with its line feed."""
    if text == "":
        raise BadText(0, FORM)
    if isinstance(text, str) and "\n" in text[:-1]:
        read_code(text.split("\n")[0] + "\n")
        raise BadText(1, FORM)
    return read_code(text)[0]


def on_share(start, end, share):
    """The number at a share of the way from one number to another one."""
    return plus(start, times(minus(end, start), share))


def shortened(row, place, share):
    """The row go or lay that leads from a place to a share of the way of a row."""
    word, x, y = row
    return (word, on_share(place[0], x, share), on_share(place[1], y, share))
