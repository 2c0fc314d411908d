"""What several tests of the project share: nets, feeds with every kind of line, and shapes of what is told."""

import random
import unittest

from beatgrid.errors import GridError, NoCount, NoFault, NoFeed, NoNet, NoSchedule, NoTable, NoText

KINDS = ("product", "paths", "sorting")
SIZES = ((1, 1), (1, 6), (6, 1), (2, 3), (3, 2), (4, 4), (5, 2), (6, 6))
NO_NETS = (
    ("", 1, 1), ("Product", 1, 1), ("paths ", 2, 2), ("sort", 2, 2), ("product paths", 1, 1),
    ("product", 0, 1), ("product", 1, 0), ("paths", 7, 1), ("paths", 1, 7), ("sorting", -1, 2),
    ("sorting", 2, -1), ("product", 0, 0), ("paths", 7, 7), ("sorting", 100, 2), ("sorting", 2, 100),
    ("product", 10 ** 29, 1), ("product", 1, -10 ** 29),
)
REFUSALS = (NoNet, NoFeed, NoCount, NoTable, NoFault, NoSchedule, NoText)
COUNTS_REFUSED = (-1, 61, -2, 62, -60, 1000, 10 ** 29, -10 ** 29)


class Asking(unittest.TestCase):
    def refuses(self, refusal, asked, *handed_in):
        """The error by which this is refused: of that class, and of none of the others."""
        with self.assertRaises(ValueError) as caught:
            asked(*handed_in)
        self.assertIsInstance(caught.exception, GridError)
        self.assertEqual([one for one in REFUSALS if isinstance(caught.exception, one)], [refusal])
        return caught.exception


def empty_feed(rows, columns):
    return ((),) * rows, ((),) * columns


def feeds_refused(rows, columns):
    """Feeds with a row or a column more or fewer, or many more, or rows and columns taken for each other."""
    counts = [
        (rows + 1, columns), (rows - 1, columns), (rows, columns + 1), (rows, columns - 1),
        (rows + 1, columns - 1), (rows + 90, columns), (rows, columns + 90), (0, 0),
    ]
    if rows != columns:
        counts.append((columns, rows))
    for count in counts:
        yield empty_feed(*count)
        yield tuple([((1, 2),) * many for many in count])


def some_number(chance):
    sort = chance.randrange(8)
    if sort < 3:
        return None
    if sort == 3:
        return chance.choice((10 ** 30 - 1, 1 - 10 ** 30, 10 ** 29))
    return chance.randrange(-3, 4)


def some_line(chance, length):
    if chance.randrange(6) == 0:
        return (None,) * length
    return tuple([some_number(chance) for _ in range(length)])


def some_feed(chance, rows, columns, longest):
    """Lines of unlike lengths, empty ones and ones of None among them."""
    def lines(count):
        return tuple([some_line(chance, chance.choice((0, 1, longest // 2, longest))) for _ in range(count)])
    return lines(rows), lines(columns)


def runs():
    """Nets of all kinds with a feed and a count of beats, the same ones each time."""
    chance = random.Random(20)
    for kind in KINDS:
        for rows, columns in SIZES:
            for beats in (0, 1, 2, 5, 9, 17, 60):
                for longest in (2, 8, 20, 70):
                    yield (kind, rows, columns), some_feed(chance, rows, columns, longest), beats


def some_state(chance, net):
    """A state of the net's, also one that no run comes to."""
    kind, rows, columns = net

    def cell():
        kept = some_number(chance)
        if kind == "product" and kept is None:
            kept = 0
        return kept, some_number(chance), some_number(chance)
    return tuple([tuple([cell() for _ in range(columns)]) for _ in range(rows)])


def is_number(thing):
    return isinstance(thing, int) and not isinstance(thing, bool)


def is_state_of(net, state):
    _, rows, columns = net
    return type(state) is tuple and len(state) == rows and all(
        type(row) is tuple and len(row) == columns and all(
            type(cell) is tuple and len(cell) == 3 and all(thing is None or is_number(thing) for thing in cell)
            for cell in row)
        for row in state)


def is_kept_of(net, kept):
    _, rows, columns = net
    return type(kept) is tuple and len(kept) == rows and all(
        type(row) is tuple and len(row) == columns and all(thing is None or is_number(thing) for thing in row)
        for row in kept)


def turned(rows):
    return tuple([tuple(line) for line in zip(*rows)])
