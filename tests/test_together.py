"""The points together: larger nets, later feeds, nets turned about, runs that go on, and nets folded."""

import random
import unittest

from beatgrid.beats import at_first, beat, kept_in, run
from beatgrid.folding import folded, folded_run, wrong
from beatgrid.judging import faulty, judged, off_sum
from beatgrid.made import beats_for, feeds, in_order, multiplied
from beatgrid.notes import read, written
from beatgrid.sums import told_by_sum
from helper import SIZES, runs, some_feed, turned


def later(feed, many):
    lefts, tops = feed
    return tuple([(None,) * many + line for line in lefts]), tuple([(None,) * many + line for line in tops])


def gone_on(net, feed, state, start, beats):
    """The states behind the beats from start on, from a state that was told."""
    states = []
    for when in range(start, beats):
        lefts, tops = [tuple([line[when] if when < len(line) else None for line in lines]) for lines in feed]
        state = beat(net, state, lefts, tops)
        states.append(state)
    return states


class Together(unittest.TestCase):
    def test_more_rows_or_columns_keep_the_same_in_the_cells_that_both_have(self):
        chance = random.Random(9)
        for net, feed, beats in runs():
            kind, rows, columns = net
            more = (kind, chance.randrange(rows, 7), chance.randrange(columns, 7))
            below, beside = some_feed(chance, more[1] - rows, more[2] - columns, 9)
            larger = (feed[0] + below, feed[1] + beside)
            for small, large in zip(run(net, feed, beats), run(more, larger, beats), strict=True):
                self.assertEqual(tuple([row[:columns] for row in large[:rows]]), small)
            told = told_by_sum(more, larger, beats)
            self.assertEqual(tuple([row[:columns] for row in told[:rows]]), told_by_sum(net, feed, beats))

    def test_a_feed_that_comes_later_gives_the_same_states_later(self):
        for net, feed, beats in runs():
            for many in (1, 2, 7, 60):
                if beats + many <= 60:
                    states = run(net, later(feed, many), beats + many)
                    self.assertEqual(states[:many], [at_first(net)] * many)
                    self.assertEqual(states[many:], run(net, feed, beats))
                    self.assertEqual(
                        told_by_sum(net, later(feed, many), beats + many), told_by_sum(net, feed, beats))

    def test_product_and_paths_nets_turned_about_keep_the_same_turned_about(self):
        for net, feed, beats in runs():
            kind, rows, columns = net
            if kind != "sorting":
                about = (kind, columns, rows)
                states = run(net, feed, beats)
                states_about = run(about, (feed[1], feed[0]), beats)
                for state, state_about in zip(states, states_about, strict=True):
                    self.assertEqual(kept_in(state_about), turned(kept_in(state)))
                told = told_by_sum(net, feed, beats)
                self.assertEqual(told_by_sum(about, (feed[1], feed[0]), beats), turned(told))

    def test_nets_asked_in_turn_do_not_touch_each_other(self):
        chance = random.Random(10)
        asked = []
        for rows, columns in SIZES:
            for kind in ("product", "paths", "sorting"):
                net = (kind, rows, columns)
                feed = some_feed(chance, rows, columns, 9)
                asked.append((net, feed, run(net, feed, 12), told_by_sum(net, feed, 12)))
        for net, feed, states, told in reversed(asked):
            self.assertEqual(run(net, feed, 12), states)
            self.assertEqual(told_by_sum(net, feed, 12), told)

    def test_a_run_goes_on_from_any_state_that_was_told_or_read(self):
        for net, feed, beats in runs():
            if beats in (2, 5, 17):
                states = [at_first(net)] + run(net, feed, beats)
                for start, state in enumerate(states):
                    self.assertEqual(gone_on(net, feed, state, start, beats), states[start + 1:])
                    self.assertEqual(gone_on(net, feed, read(written(state)), start, beats), states[start + 1:])

    def test_a_run_with_a_fault_goes_on_from_what_was_read(self):
        for net, feed, beats in runs():
            if beats == 9:
                faults = [(4, 0, 0, 0, -3), (4, net[1] - 1, net[2] - 1, 1, None), (4, 0, 0, 2, 10 ** 30 - 1)]
                states = faulty(net, feed, beats, faults)
                self.assertEqual(gone_on(net, feed, read(written(states[4])), 5, beats), states[5:])
                self.assertEqual(states[:4], run(net, feed, 4))

    def test_states_that_were_read_are_judged_as_those_that_were_written(self):
        for net, feed, beats in runs():
            if 0 < beats <= 9:
                for states in (run(net, feed, beats), faulty(net, feed, beats, [(beats // 2, 0, 0, 0, 7)])):
                    again = [read(written(state)) for state in states]
                    self.assertEqual(judged(net, feed, again), judged(net, feed, states))
                    self.assertEqual(off_sum(net, feed, again), off_sum(net, feed, states))

    def test_the_net_the_sum_and_whatever_schedule_keep_the_same(self):
        chance = random.Random(70)
        for net, feed, beats in runs():
            if 0 < beats <= 17:
                _, rows, columns = net
                schedule = folded(net, beats, chance.randrange(1, rows * columns + 1))
                # Steps of no task, and workers that change their places, change nothing.
                mixed = []
                for step in schedule:
                    mixed.append(tuple(chance.sample(step, len(step))))
                    mixed.append((None,) * len(step))
                self.assertIsNone(wrong(net, beats, mixed))
                told = told_by_sum(net, feed, beats)
                self.assertEqual(folded_run(net, feed, beats, schedule), told)
                self.assertEqual(folded_run(net, feed, beats, mixed), told)
                self.assertEqual(kept_in(run(net, feed, beats)[-1]), told)

    def test_a_product_by_few_workers(self):
        one, other = ((1, -2, 3), (10 ** 30 - 1, 5, 6)), ((7, 8), (9, 0), (-1, 2))
        feed, beats = feeds(one, other), beats_for(one, other)
        for workers in range(1, 5):
            schedule = folded(("product", 2, 2), beats, workers)
            self.assertEqual(folded_run(("product", 2, 2), feed, beats, schedule), multiplied(one, other))

    def test_a_product_with_a_fault_is_found_out(self):
        one, other = ((1, 2), (3, 4)), ((5, 6), (7, 8))
        net, feed, beats = ("product", 2, 2), feeds(one, other), beats_for(one, other)
        states = faulty(net, feed, beats, [(1, 0, 0, 1, 100)])
        self.assertNotEqual(kept_in(states[-1]), multiplied(one, other))
        self.assertEqual((judged(net, feed, states), off_sum(net, feed, states)), ((1, 0, 0), (2, 0, 1)))

    def test_numbers_that_were_told_may_be_handed_in_however_long(self):
        table = ((10 ** 30 - 1, -3), (5, 10 ** 29))
        for _ in range(8):
            table = multiplied(table, table)
        number = table[0][0]
        self.assertEqual(in_order([number, 1, -number]), [-number, 1, number])
        net, feed = ("product", 1, 1), (((number,),), ((1,),))
        states = run(net, feed, 1)
        self.assertEqual(states, [(((number, number, 1),),)])
        self.assertIsNone(judged(net, feed, states))
        self.assertIsNone(off_sum(net, feed, states))
        figures = written(states[0]).split("/")[0]
        self.assertGreater(len(figures), 4300)
        # Figure by figure, as Python's own int does not take so many at once.
        again = 0
        for figure in figures:
            again = again * 10 + int(figure)
        self.assertEqual(again, number)


if __name__ == "__main__":
    unittest.main()
