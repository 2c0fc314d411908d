"""What is made by nets of any size: tables multiplied, shortest ways found, numbers put in order."""

from beatgrid.beats import kept_in, run
from beatgrid.checks import MOST_LINES
from beatgrid.errors import NoCount, NoTable


def feeds(one, other):
    """The feed by which the one's rows come from the left and the other's columns from above."""
    check_tables(one, other)
    return (each_later(one), each_later(columns_of(other)))


def beats_for(one, other):
    """How many beats the two tables take until the last numbers of both have met."""
    check_tables(one, other)
    return len(one) + len(other[0]) + len(one[0]) - 2


def multiplied(one, other):
    """The product of two tables, by a product net."""
    check_tables(one, other)
    check_full(one)
    check_full(other)
    return kept_of("product", one, other)


def shortest(lengths):
    """The lengths of the shortest ways between all places, by paths nets."""
    check_ties(lengths)
    ways = with_places(lengths)
    ties = 1
    # A shortest way has fewer ties than there are places, and each net tells of ways of twice as many ties.
    while ties < len(lengths):
        ways = kept_of("paths", ways, ways)
        ties *= 2
    return ways


def in_order(numbers):
    """The numbers, rising, by a sorting net of one row."""
    many = len(numbers)
    if not 1 <= many <= MOST_LINES:
        raise NoCount("the numbers to put in order are not 1 to 6")
    feed = ((tuple(numbers),), ((),) * many)
    states = run(("sorting", 1, many), feed, 2 * many - 1)
    return list(kept_in(states[-1])[0])


def kept_of(kind, one, other):
    """What a net keeps that is fed with two tables."""
    net = (kind, len(one), len(other[0]))
    states = run(net, feeds(one, other), beats_for(one, other))
    return kept_in(states[-1])


def each_later(lines):
    """The lines, each one a beat later than the one ahead of it."""
    return tuple([(None,) * late + line for late, line in enumerate(lines)])


def columns_of(table):
    """The columns of a table as lines."""
    return tuple([tuple([row[column] for row in table]) for column in range(len(table[0]))])


def with_places(lengths):
    """The ties, and of length 0 the way from each place to itself."""
    return tuple([lengths[place][:place] + (0,) + lengths[place][place + 1:] for place in range(len(lengths))])


def check_table(table):
    """Refuse what is no table."""
    if not 1 <= len(table) <= MOST_LINES:
        raise NoTable("the rows of the table are not 1 to 6")
    for row in table:
        if not 1 <= len(row) <= MOST_LINES:
            raise NoTable("the columns of the table are not 1 to 6")
        if len(row) != len(table[0]):
            raise NoTable("the rows of the table are not all as long")


def check_tables(one, other):
    """Refuse two tables that do not go together."""
    check_table(one)
    check_table(other)
    if len(one[0]) != len(other):
        raise NoTable("the rows of the one are not as long as the other one has rows")


def check_full(table):
    """Refuse a table with None."""
    for row in table:
        if None in row:
            raise NoTable("a table that is multiplied has None")


def check_ties(lengths):
    """Refuse what is no table of ties."""
    check_table(lengths)
    if len(lengths) != len(lengths[0]):
        raise NoTable("the table of ties is not as wide as long")
    for row in lengths:
        for length in row:
            if length is not None and length < 0:
                raise NoTable("a tie is below 0")
