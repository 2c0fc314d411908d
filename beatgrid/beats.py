"""What a net does: its state at first, behind one beat and behind many."""

from beatgrid.checks import check_feed, check_net, check_run


def product_cell(kept, left, above):
    """What a cell of a product net keeps and passes, by what it takes."""
    if left is None or above is None:
        return (kept, left, above)
    return (kept + left * above, left, above)


def paths_cell(kept, left, above):
    """What a cell of a paths net keeps and passes, by what it takes."""
    if left is None or above is None:
        return (kept, left, above)
    if kept is None:
        return (left + above, left, above)
    return (min(kept, left + above), left, above)


def sorting_cell(kept, left, above):
    """What a cell of a sorting net keeps and passes, by what it takes."""
    if left is None:
        return (kept, None, above)
    if kept is None:
        return (left, None, above)
    return (min(kept, left), max(kept, left), above)


CELLS = {"product": product_cell, "paths": paths_cell, "sorting": sorting_cell}


def at_first(net):
    """The state of the net ahead of all beats."""
    check_net(net)
    kind, rows, columns = net
    kept = 0 if kind == "product" else None
    row = ((kept, None, None),) * columns
    return (row,) * rows


def beat(net, state, lefts, tops):
    """The state behind one beat at which lefts and tops are fed."""
    check_net(net)
    check_feed(net, lefts, tops)
    return state_behind(net, state, lefts, tops)


def run(net, feed, beats):
    """The states behind all beats, one behind the other."""
    check_run(net, feed, beats)
    state = at_first(net)
    states = []
    for when in range(beats):
        state = state_fed(net, feed, state, when)
        states.append(state)
    return states


def kept_in(state):
    """What all cells keep in the state."""
    return tuple([tuple([cell[0] for cell in row]) for row in state])


def state_fed(net, feed, state, when):
    """The state behind a beat of the feed, by the state ahead of it."""
    lefts, tops = feed
    return state_behind(net, state, fed_at(lefts, when), fed_at(tops, when))


def state_behind(net, state, lefts, tops):
    """The state behind one beat, where nothing is to be refused any more."""
    rows = []
    above = tops
    for row, left in zip(state, lefts):
        rows.append(row_behind(net[0], row, left, above))
        # The row below takes what this one passed in the state ahead, not what it passes now.
        above = [cell[2] for cell in row]
    return tuple(rows)


def row_behind(kind, row, left, above):
    """One row behind one beat, by what comes from the left and from above."""
    cells = []
    for cell, top in zip(row, above):
        cells.append(cell_behind(kind, cell[0], left, top))
        left = cell[1]
    return tuple(cells)


def cell_behind(kind, kept, left, above):
    """What a cell of a net of that kind keeps and passes, by what it kept and what it takes."""
    cell_of_kind = CELLS[kind]
    return cell_of_kind(kept, left, above)


def fed_at(lines, when):
    """What is fed to each row, or each column, at a beat."""
    return tuple([fed_to(line, when) for line in lines])


def fed_to(line, when):
    """What is fed to one row or column at a beat: None if the feed does not have that beat."""
    if 0 <= when < len(line):
        return line[when]
    return None
