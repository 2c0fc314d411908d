"""What a net keeps, told by one sum for each cell and not beat by beat."""

from beatgrid.beats import fed_to
from beatgrid.checks import check_run


def told_by_sum(net, feed, beats):
    """What all cells of the net keep behind so many beats."""
    check_run(net, feed, beats)
    return kept_by_sum(net, feed, beats)


def kept_by_sum(net, feed, beats):
    """What all cells keep behind any count of beats, where nothing is to be refused any more."""
    kind, rows, columns = net
    lefts, tops = feed
    kept_by = SUMS[kind]
    return tuple([
        tuple([kept_by(lefts[row], tops[column], row, column, beats) for column in range(columns)])
        for row in range(rows)
    ])


def product_kept(left, top, row, column, beats):
    """What a cell of a product net keeps."""
    return sum([a * b for a, b in met(left, top, row, column, beats)])


def paths_kept(left, top, row, column, beats):
    """What a cell of a paths net keeps."""
    return min([a + b for a, b in met(left, top, row, column, beats)], default=None)


def sorting_kept(left, _top, _row, column, beats):
    """What a cell of a sorting net keeps."""
    # With fewer beats than the column's number a plain slice would count from the end.
    numbers = sorted([a for a in left[:max(0, beats - column)] if a is not None])
    if len(numbers) < column + 1:
        return None
    return numbers[column]


def met(left, top, row, column, beats):
    """The pairs of numbers that come to a cell at one beat, from the left and from above."""
    pairs = []
    for when in range(beats):
        a = fed_to(left, when - column)
        b = fed_to(top, when - row)
        if a is not None and b is not None:
            pairs.append((a, b))
    return pairs


SUMS = {"product": product_kept, "paths": paths_kept, "sorting": sorting_kept}
