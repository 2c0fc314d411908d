"""Runs judged: states with faults, the first one that is wrong, and the first one off the sum."""

from beatgrid.beats import at_first, kept_in, state_fed
from beatgrid.checks import PARTS, check_fed_net, check_run
from beatgrid.errors import NoFault
from beatgrid.sums import kept_by_sum


def faulty(net, feed, beats, faults):
    """The states behind all beats of a run with faults."""
    check_run(net, feed, beats)
    check_faults(net, beats, faults)
    state = at_first(net)
    states = []
    for when in range(beats):
        state = with_faults(state_fed(net, feed, state, when), when, faults)
        states.append(state)
    return states


def judged(net, feed, states):
    """The first beat, row and column at which a state isn't what the beat makes of the one ahead."""
    check_fed_net(net, feed)
    ahead = at_first(net)
    for when, state in enumerate(states):
        place = first_unlike(state, state_fed(net, feed, ahead, when))
        if place is not None:
            return (when, *place)
        ahead = state
    return None


def off_sum(net, feed, states):
    """The first beat, row and column behind which what a cell keeps isn't what the sum tells."""
    check_fed_net(net, feed)
    for when, state in enumerate(states):
        place = first_unlike(kept_in(state), kept_by_sum(net, feed, when + 1))
        if place is not None:
            return (when, *place)
    return None


def check_faults(net, beats, faults):
    """Refuse a fault at a beat, row, column or part that the run does not have."""
    _, rows, columns = net
    for when, row, column, part, _ in faults:
        if not 0 <= when < beats:
            raise NoFault("a fault is at a beat that there isn't")
        if not 0 <= row < rows:
            raise NoFault("a fault is at a row that there isn't")
        if not 0 <= column < columns:
            raise NoFault("a fault is at a column that there isn't")
        if not 0 <= part < PARTS:
            raise NoFault("a fault is at a part that there isn't")


def with_faults(state, when, faults):
    """The state behind that beat with its faults, a later one of the list over one ahead of it."""
    cells = [[list(cell) for cell in row] for row in state]
    for at, row, column, part, thing in faults:
        if at == when:
            cells[row][column][part] = thing
    return tuple([tuple([tuple(cell) for cell in row]) for row in cells])


def first_unlike(rows, others):
    """The first row and column at which two things of one size aren't the same."""
    for row, (cells, other_cells) in enumerate(zip(rows, others)):
        for column, (cell, other_cell) in enumerate(zip(cells, other_cells)):
            if cell != other_cell:
                return (row, column)
    return None
