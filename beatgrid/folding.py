"""Nets folded: schedules by which so many workers do what the cells do, judged, done and told."""

from beatgrid.beats import at_first, cell_behind, fed_to
from beatgrid.checks import check_beats, check_net, check_run
from beatgrid.errors import NoCount, NoSchedule


def wrong(net, beats, schedule):
    """What is wrong with a schedule first, or None."""
    check_net(net)
    check_beats(beats)
    return first_wrong(net, beats, schedule)


def folded_run(net, feed, beats, schedule):
    """What all cells keep behind so many beats, the tasks done by the schedule."""
    check_run(net, feed, beats)
    reason = first_wrong(net, beats, schedule)
    if reason is not None:
        raise NoSchedule(reason)
    done = done_at_first(net)
    for step in schedule:
        for task in step:
            if task is not None:
                done[task] = cell_done(net, feed, task, done)
    return kept_at(net, beats - 1, done)


def folded(net, beats, workers):
    """A schedule that isn't wrong, in which each cell is always done by the same worker."""
    check_net(net)
    check_beats(beats)
    places = places_of(net)
    if not 1 <= workers <= len(places):
        raise NoCount("the workers are not 1 to as many as there are cells")
    schedule = []
    for when in range(beats):
        for first in range(0, len(places), workers):
            schedule.append(step_of(when, places[first:first + workers], workers))
    return schedule


def first_wrong(net, beats, schedule):
    """What is wrong first, where the net and the beats are not to be refused any more."""
    done_in = {}
    for step, tasks in enumerate(schedule):
        for worker, task in enumerate(tasks):
            if task is not None:
                what = wrong_with(net, beats, task, step, done_in)
                if what is not None:
                    return (what, step, worker)
                done_in[task] = step
    return first_missing(net, beats, done_in)


def wrong_with(net, beats, task, step, done_in):
    """What is wrong with a task in a step, by the steps in which those ahead of it were done."""
    if not is_task(net, beats, task):
        return "none"
    if task in done_in:
        return "twice"
    for need in needs_of(task):
        # What another worker does in this very step isn't there yet.
        if need not in done_in or done_in[need] == step:
            return "early"
    return None


def is_task(net, beats, task):
    """Whether a tuple of numbers is a task of the net's beats."""
    if len(task) != 3:
        return False
    _, rows, columns = net
    when, row, column = task
    return 0 <= when < beats and 0 <= row < rows and 0 <= column < columns


def needs_of(task):
    """The tasks of the beat ahead that a task needs."""
    when, row, column = task
    if when == 0:
        return []
    needs = [(when - 1, row, column)]
    if column > 0:
        needs.append((when - 1, row, column - 1))
    if row > 0:
        needs.append((when - 1, row - 1, column))
    return needs


def first_missing(net, beats, done_in):
    """The first task that isn't done, as what is wrong, or None."""
    places = places_of(net)
    for when in range(beats):
        for row, column in places:
            task = (when, row, column)
            if task not in done_in:
                return ("missing", task)
    return None


def places_of(net):
    """The row and the column of each cell, rising."""
    _, rows, columns = net
    return [(row, column) for row in range(rows) for column in range(columns)]


def step_of(when, places, workers):
    """A step in which the cells at these places are done, the other workers idle."""
    tasks = [(when, row, column) for row, column in places]
    return tuple(tasks + [None] * (workers - len(tasks)))


def done_at_first(net):
    """The cells of the state at first, which stand as done at the beat ahead of beat 0."""
    state = at_first(net)
    return {(-1, row, column): state[row][column] for row, column in places_of(net)}


def cell_done(net, feed, task, done):
    """What a task makes of its cell, by the tasks that are done."""
    lefts, tops = feed
    when, row, column = task
    kept = done[(when - 1, row, column)][0]
    left = done[(when - 1, row, column - 1)][1] if column > 0 else fed_to(lefts[row], when)
    above = done[(when - 1, row - 1, column)][2] if row > 0 else fed_to(tops[column], when)
    return cell_behind(net[0], kept, left, above)


def kept_at(net, when, done):
    """What all cells keep behind a beat."""
    _, rows, columns = net
    return tuple([tuple([done[(when, row, column)][0] for column in range(columns)]) for row in range(rows)])
