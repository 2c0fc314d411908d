"""States as texts."""

from beatgrid.checks import MOST_LINES, PARTS
from beatgrid.errors import NoText

MOST_FIGURES = 100


def written(state):
    """The text of a state."""
    return "\n".join([written_row(row) for row in state])


def read(text):
    """The state that is so written."""
    lines = text.split("\n")
    if len(lines) > MOST_LINES:
        raise NoText("the lines are not 1 to 6")
    rows = [read_row(line) for line in lines]
    for row in rows:
        if len(row) != len(rows[0]):
            raise NoText("not as many words in each line")
    return tuple(rows)


def written_row(row):
    """The line of a row."""
    return " ".join([written_cell(cell) for cell in row])


def written_cell(cell):
    """The word of a cell."""
    return "/".join([written_thing(thing) for thing in cell])


def written_thing(thing):
    """A number, or `-` for None."""
    if thing is None:
        return "-"
    if thing < 0:
        return "-" + figures_of(-thing)
    return figures_of(thing)


def figures_of(number):
    """The figures of a number of 0 or more."""
    # Python's own str refuses numbers of some thousand figures, and what a net told may have that many.
    size = 60
    limit = 10 ** 60
    pieces = []
    while number >= limit:
        number, piece = divmod(number, limit)
        pieces.append(str(piece).zfill(size))
    pieces.append(str(number))
    return "".join(pieces[::-1])


def read_row(line):
    """The row of a line."""
    words = line.split(" ")
    if len(words) > MOST_LINES:
        raise NoText("the words of a line are not 1 to 6")
    return tuple([read_cell(word) for word in words])


def read_cell(word):
    """The cell of a word."""
    parts = word.split("/")
    if len(parts) != PARTS:
        raise NoText("a word has not three parts")
    return tuple([read_thing(part) for part in parts])


def read_thing(part):
    """The number that is so written, or None."""
    if part == "-":
        return None
    figures = part.removeprefix("-")
    if not (figures.isascii() and figures.isdigit()):
        raise NoText("a part is neither a number nor a stroke")
    if len(figures) > MOST_FIGURES:
        raise NoText("a number has more than a hundred figures")
    if figures.startswith("0") and part != "0":
        raise NoText("a number has a needless 0")
    return int(part)
