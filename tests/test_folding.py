"""Points 12 to 14: what is wrong with a schedule, runs by schedules, and nets folded to fewer workers."""

import copy
import random
import unittest

from beatgrid.beats import at_first, kept_in, run
from beatgrid.errors import NoCount, NoFeed, NoNet, NoSchedule
from beatgrid.folding import folded, folded_run, wrong
from beatgrid.sums import told_by_sum
from helper import COUNTS_REFUSED, KINDS, NO_NETS, SIZES, Asking, empty_feed, feeds_refused, is_kept_of, runs, some_feed

NO_TASKS = (
    (), (0,), (0, 0), (0, 0, 0, 0), (0,) * 100, (-1, 0, 0), (0, -1, 0), (0, 0, -1), (2, 0, 0), (0, 2, 0), (0, 0, 3),
    (3, 0, 0), (0, 3, 0), (0, 0, 4), (10 ** 29, 0, 0), (0, -10 ** 29, 0), (0, 0, 10 ** 29),
)


def tasks_of(net, beats):
    _, rows, columns = net
    return [(when, row, column) for when in range(beats) for row in range(rows) for column in range(columns)]


def wrong_by_hand(net, beats, schedule):
    """Point 12 once more, each place judged by all that is ahead of it."""
    there = tasks_of(net, beats)
    for step, tasks in enumerate(schedule):
        for worker, task in enumerate(tasks):
            if task is None:
                continue
            steps_ahead = [other for line in schedule[:step] for other in line]
            if task not in there:
                return "none", step, worker
            if task in steps_ahead or task in tasks[:worker]:
                return "twice", step, worker
            when, row, column = task
            for need in ((when - 1, row, column), (when - 1, row, column - 1), (when - 1, row - 1, column)):
                if need in there and need not in steps_ahead:
                    return "early", step, worker
    done = [task for line in schedule for task in line]
    missing = [task for task in there if task not in done]
    return ("missing", min(missing)) if missing else None


def some_schedule(chance, net, beats, workers):
    """A schedule that isn't wrong, in an order that chance tells, with idle workers and idle steps."""
    left = tasks_of(net, beats)
    done = {}
    schedule = []
    while left:
        step = len(schedule)
        line = []
        chance.shuffle(left)
        for _ in range(workers):
            ready = [
                task for task in left
                if all(
                    done.get(need, step) < step
                    for need in ((task[0] - 1, *task[1:]), (task[0] - 1, task[1], task[2] - 1),
                                 (task[0] - 1, task[1] - 1, task[2]))
                    if min(need) >= 0)]
            if ready and chance.randrange(6):
                task = ready[0]
                left.remove(task)
                done[task] = step
                line.append(task)
            else:
                line.append(None)
        schedule.append(tuple(line))
    return schedule


class Wrong(Asking):
    net = ("product", 1, 2)

    def test_nothing_wrong(self):
        for kind in KINDS:
            net = (kind, 1, 2)
            self.assertIsNone(wrong(net, 0, []))
            self.assertIsNone(wrong(net, 0, [(None, None), (None, None)]))
            self.assertIsNone(wrong(net, 1, [((0, 0, 0), (0, 0, 1))]))
            self.assertIsNone(wrong(net, 1, [((0, 0, 1),), (None,), ((0, 0, 0),)]))
            self.assertIsNone(wrong(net, 2, [((0, 0, 0), None), ((1, 0, 0), (0, 0, 1)), (None, (1, 0, 1))]))

    def test_no_task(self):
        net = ("paths", 2, 3)
        for task in NO_TASKS:
            self.assertEqual(wrong(net, 2, [(task,)]), ("none", 0, 0))
            self.assertEqual(wrong(net, 2, [(None, (0, 1, 2)), ((0, 0, 0), task)]), ("none", 1, 1))
        self.assertEqual(wrong(net, 0, [((0, 0, 0),)]), ("none", 0, 0))
        self.assertEqual(wrong(net, 60, [((60, 0, 0),)]), ("none", 0, 0))
        self.assertEqual(wrong(net, 60, [((59, 0, 0),)]), ("early", 0, 0))

    def test_twice(self):
        self.assertEqual(wrong(self.net, 1, [((0, 0, 0), (0, 0, 0))]), ("twice", 0, 1))
        self.assertEqual(wrong(self.net, 1, [((0, 0, 0), None), (None, (0, 0, 0))]), ("twice", 1, 1))
        self.assertEqual(
            wrong(self.net, 1, [((0, 0, 0), (0, 0, 1)), (None, None), ((0, 0, 1), None)]), ("twice", 2, 0))

    def test_early(self):
        self.assertEqual(wrong(self.net, 2, [((0, 0, 0), (1, 0, 0))]), ("early", 0, 1))
        self.assertEqual(wrong(self.net, 2, [((1, 0, 0), (0, 0, 0))]), ("early", 0, 0))
        self.assertEqual(wrong(self.net, 2, [((0, 0, 1),), ((1, 0, 1),)]), ("early", 1, 0))
        self.assertEqual(wrong(self.net, 2, [((0, 0, 0),), ((1, 0, 1),)]), ("early", 1, 0))
        self.assertEqual(wrong(self.net, 2, [((0, 0, 0),), ((1, 0, 0),), ((0, 0, 1),)]), ("missing", (1, 0, 1)))

    def test_each_need_of_a_cell_within(self):
        net = ("sorting", 3, 3)
        first = [(0, row, column) for row in range(3) for column in range(3)]
        for need in ((0, 1, 1), (0, 1, 0), (0, 0, 1)):
            schedule = [(task,) for task in first if task != need] + [((1, 1, 1),)]
            self.assertEqual(wrong(net, 2, schedule), ("early", 8, 0))
            self.assertEqual(wrong(net, 2, schedule[:8] + [(need,)] + schedule[8:]), ("missing", (1, 0, 0)))
        for free in ((0, 0, 0), (0, 0, 2), (0, 1, 2), (0, 2, 0), (0, 2, 1), (0, 2, 2)):
            schedule = [(task,) for task in first if task != free] + [((1, 1, 1),)]
            self.assertEqual(wrong(net, 2, schedule), ("missing", free))

    def test_missing(self):
        self.assertEqual(wrong(self.net, 1, []), ("missing", (0, 0, 0)))
        self.assertEqual(wrong(self.net, 60, []), ("missing", (0, 0, 0)))
        self.assertEqual(wrong(self.net, 1, [(), ()]), ("missing", (0, 0, 0)))
        self.assertEqual(wrong(self.net, 1, [(None,), (None,)]), ("missing", (0, 0, 0)))
        self.assertEqual(wrong(self.net, 2, [((0, 0, 0), None)]), ("missing", (0, 0, 1)))
        self.assertEqual(wrong(self.net, 2, [((0, 0, 0), (0, 0, 1))]), ("missing", (1, 0, 0)))
        net = ("paths", 2, 2)
        full = folded(net, 3, 1)
        for at, (task,) in enumerate(full):
            if task[0] == 2:
                self.assertEqual(wrong(net, 3, full[:at] + full[at + 1:]), ("missing", task))

    def test_of_one_place_the_first_and_of_several_places_the_first(self):
        self.assertEqual(
            wrong(self.net, 2, [((0, 0, 0), (0, 0, 0)), ((7, 7, 7), (1, 0, 1))]), ("twice", 0, 1))
        self.assertEqual(wrong(self.net, 2, [((1, 0, 1), (7, 7, 7)), ((0, 0, 0), (0, 0, 0))]), ("early", 0, 0))
        self.assertEqual(wrong(self.net, 2, [((7, 7, 7), (1, 0, 1)), ((7, 7, 7), (0, 0, 0))]), ("none", 0, 0))
        self.assertEqual(wrong(self.net, 2, [((0, 0, 0),), ((0, 0, 0),), ((9,),)]), ("twice", 1, 0))

    def test_schedules_of_all_kinds_made_wrong(self):
        chance = random.Random(50)
        told = {}
        for kind in KINDS:
            for rows, columns in ((1, 1), (1, 3), (2, 2), (3, 2)):
                for beats in (0, 1, 2, 4):
                    net = (kind, rows, columns)
                    for workers in (1, 2, rows * columns, 9):
                        schedule = some_schedule(chance, net, beats, workers)
                        self.assertIsNone(wrong(net, beats, schedule))
                        for _ in range(8):
                            worse = [list(line) for line in schedule] or [[None] * workers]
                            for _ in range(chance.randrange(1, 3)):
                                one, other = chance.choice(worse), chance.choice(worse)
                                at, by = chance.randrange(workers), chance.randrange(workers)
                                one[at], other[by] = chance.choice((
                                    (other[by], one[at]), (other[by], other[by]), (None, other[by]),
                                    ((beats, 0, 0), other[by])))
                            worse = [tuple(line) for line in worse]
                            handed_in = copy.deepcopy((net, worse))
                            what = wrong(net, beats, worse)
                            self.assertEqual(what, wrong_by_hand(net, beats, worse))
                            self.assertEqual((net, worse), handed_in)
                            told[what[0] if what else None] = True
                            self.assertIn(type(what), (tuple, type(None)))
        self.assertEqual(set(told), {"none", "twice", "early", "missing", None})

    def test_which_goes_first(self):
        for net in NO_NETS:
            for beats in (0, 2, -1, 61):
                self.refuses(NoNet, wrong, net, beats, [((9, 9, 9),)])
                self.refuses(NoNet, wrong, net, beats, [])
        for kind in KINDS:
            for beats in COUNTS_REFUSED:
                self.refuses(NoCount, wrong, (kind, 1, 2), beats, [((9, 9, 9),)])
                self.refuses(NoCount, wrong, (kind, 1, 2), beats, [])


class FoldedRun(Asking):
    def test_by_hand(self):
        net, feed = ("product", 1, 2), (((2, 3),), ((5, 7), (None, 11)))
        schedule = [((0, 0, 0), None), ((1, 0, 0), (0, 0, 1)), (None, (1, 0, 1))]
        self.assertEqual(folded_run(net, feed, 2, schedule), ((31, 22),))
        self.assertEqual(folded_run(net, feed, 1, [((0, 0, 1), (0, 0, 0))]), ((10, 0),))

    def test_no_beats_and_no_step(self):
        for kind in KINDS:
            for rows, columns in SIZES:
                net = (kind, rows, columns)
                first = kept_in(at_first(net))
                self.assertEqual(folded_run(net, (((1,),) * rows, ((2,),) * columns), 0, []), first)
                self.assertEqual(folded_run(net, empty_feed(rows, columns), 0, [(None,)] * 3), first)

    def test_it_keeps_what_the_net_keeps_by_whatever_schedule(self):
        chance = random.Random(51)
        for kind in KINDS:
            for rows, columns in ((1, 1), (1, 4), (4, 1), (2, 3), (3, 3)):
                net = (kind, rows, columns)
                for beats in (1, 2, 6, 9):
                    for workers in (1, 2, 5, rows * columns, rows * columns + 3):
                        feed = some_feed(chance, rows, columns, 9)
                        schedule = some_schedule(chance, net, beats, workers)
                        handed_in = copy.deepcopy((net, feed, schedule))
                        kept = folded_run(net, feed, beats, schedule)
                        self.assertTrue(is_kept_of(net, kept))
                        self.assertEqual(kept, kept_in(run(net, feed, beats)[-1]))
                        self.assertEqual(kept, told_by_sum(net, feed, beats))
                        self.assertEqual((net, feed, schedule), handed_in)

    def test_sixty_beats_of_six_rows_and_columns_by_one_worker(self):
        for kind in KINDS:
            net = (kind, 6, 6)
            feed = some_feed(random.Random(52), 6, 6, 70)
            schedule = [(task,) for task in tasks_of(net, 60)]
            self.assertIsNone(wrong(net, 60, schedule))
            self.assertEqual(folded_run(net, feed, 60, schedule), told_by_sum(net, feed, 60))

    def test_a_wrong_schedule_with_its_reason(self):
        net, feed = ("paths", 1, 2), (((1, 2),), ((3,), (4,)))
        for beats, schedule, reason in (
            (1, [], ("missing", (0, 0, 0))),
            (1, [((0, 0, 0),)], ("missing", (0, 0, 1))),
            (1, [((0, 0, 0), (0, 0, 1)), (None, (1, 0, 0))], ("none", 1, 1)),
            (0, [((0, 0, 0),)], ("none", 0, 0)),
            (1, [((0, 0, 0), (0, 0, 1)), (None, (0, 0, 0))], ("twice", 1, 1)),
            (2, [((0, 0, 0), (0, 0, 1), (1, 0, 0))], ("early", 0, 2)),
            (1, [((),)], ("none", 0, 0)),
        ):
            self.assertEqual(self.refuses(NoSchedule, folded_run, net, feed, beats, schedule).reason, reason)
            self.assertEqual(wrong(net, beats, schedule), reason)

    def test_which_goes_first(self):
        bad = [((9, 9, 9),)]
        for net in NO_NETS:
            for beats in (2, 61):
                self.refuses(NoNet, folded_run, net, empty_feed(2, 2), beats, bad)
                self.refuses(NoNet, folded_run, net, empty_feed(9, 9), beats, bad)
        for feed in feeds_refused(2, 3):
            for beats in (0, 2, -1, 61):
                self.refuses(NoFeed, folded_run, ("sorting", 2, 3), feed, beats, bad)
                self.refuses(NoFeed, folded_run, ("sorting", 2, 3), feed, beats, [])
        for beats in COUNTS_REFUSED:
            self.refuses(NoCount, folded_run, ("sorting", 2, 3), empty_feed(2, 3), beats, bad)
            self.refuses(NoCount, folded_run, ("sorting", 2, 3), empty_feed(2, 3), beats, [])


class Folded(Asking):
    def judge(self, net, beats, workers):
        """The schedule that is told, all that is promised of it judged."""
        _, rows, columns = net
        schedule = folded(net, beats, workers)
        self.assertIs(type(schedule), list)
        worker_of = {}
        for step in schedule:
            self.assertIs(type(step), tuple)
            self.assertEqual(len(step), workers)
            for worker, task in enumerate(step):
                if task is not None:
                    self.assertIs(type(task), tuple)
                    self.assertEqual(worker_of.setdefault(task[1:], worker), worker)
        self.assertIsNone(wrong_by_hand(net, beats, schedule) if beats < 5 else wrong(net, beats, schedule))
        self.assertIsNone(wrong(net, beats, schedule))
        self.assertLessEqual(len(schedule), beats * ((rows * columns + workers - 1) // workers))
        return schedule

    def test_each_count_of_workers(self):
        for kind in KINDS:
            for rows, columns in SIZES:
                for workers in range(1, rows * columns + 1):
                    for beats in (0, 1, 3):
                        self.judge((kind, rows, columns), beats, workers)

    def test_no_beats_and_sixty(self):
        for kind in KINDS:
            self.assertEqual(self.judge((kind, 6, 6), 0, 5), [])
            for workers in (1, 5, 35, 36):
                schedule = self.judge((kind, 6, 6), 60, workers)
                feed = some_feed(random.Random(53), 6, 6, 70)
                self.assertEqual(folded_run((kind, 6, 6), feed, 60, schedule), told_by_sum((kind, 6, 6), feed, 60))

    def test_what_is_kept_by_it(self):
        for net, feed, beats in runs():
            _, rows, columns = net
            if beats <= 9:
                for workers in (1, 2, rows * columns - 1, rows * columns):
                    if 1 <= workers <= rows * columns:
                        kept = folded_run(net, feed, beats, folded(net, beats, workers))
                        self.assertEqual(kept, told_by_sum(net, feed, beats))

    def test_the_list_may_be_changed(self):
        net = ("paths", 2, 3)
        schedule = folded(net, 4, 4)
        again = copy.deepcopy(schedule)
        schedule[0] = ()
        schedule.clear()
        self.assertEqual(folded(net, 4, 4), again)

    def test_counts_of_workers_refused(self):
        for kind in KINDS:
            for rows, columns in SIZES:
                for workers in (0, -1, rows * columns + 1, rows * columns + 2, 100, 10 ** 29, -10 ** 29):
                    for beats in (0, 1, 60):
                        self.refuses(NoCount, folded, (kind, rows, columns), beats, workers)

    def test_which_goes_first(self):
        for net in NO_NETS:
            for beats, workers in ((2, 1), (2, 0), (-1, 1), (61, 0)):
                self.refuses(NoNet, folded, net, beats, workers)
        for beats in COUNTS_REFUSED:
            for workers in (1, 6, 0, 7):
                self.refuses(NoCount, folded, ("product", 2, 3), beats, workers)


if __name__ == "__main__":
    unittest.main()
