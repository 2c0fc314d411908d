"""What is refused of nets, feeds and counts of beats, for all files of the package."""

from beatgrid.errors import NoCount, NoFeed, NoNet

KINDS = ("product", "paths", "sorting")
MOST_LINES = 6
MOST_BEATS = 60
# A cell is told as what it keeps, what it passes to the right and what it passes down.
PARTS = 3


def check_net(net):
    """Refuse what is no net."""
    kind, rows, columns = net
    if kind not in KINDS:
        raise NoNet("the kind is none of product, paths and sorting")
    if not 1 <= rows <= MOST_LINES:
        raise NoNet("the rows are not 1 to 6")
    if not 1 <= columns <= MOST_LINES:
        raise NoNet("the columns are not 1 to 6")


def check_feed(net, lefts, tops):
    """Refuse lefts and tops that are not one for each row and column of the net."""
    _, rows, columns = net
    if len(lefts) != rows:
        raise NoFeed("the feed has another count of rows than the net")
    if len(tops) != columns:
        raise NoFeed("the feed has another count of columns than the net")


def check_beats(beats):
    """Refuse a count of beats that is out of bounds."""
    if not 0 <= beats <= MOST_BEATS:
        raise NoCount("the beats are not 0 to 60")


def check_fed_net(net, feed):
    """Refuse what is no net ahead of what is no feed of it."""
    check_net(net)
    lefts, tops = feed
    check_feed(net, lefts, tops)


def check_run(net, feed, beats):
    """Refuse what makes no run, in the order in which the errors go first."""
    check_fed_net(net, feed)
    check_beats(beats)
