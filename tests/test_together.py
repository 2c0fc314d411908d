"""Points 4 to 7 together: larger nets, later feeds, and nets turned about."""

import random
import unittest

from beatgrid.beats import at_first, kept_in, run
from beatgrid.sums import told_by_sum
from helper import SIZES, runs, some_feed, turned


def later(feed, many):
    lefts, tops = feed
    return tuple([(None,) * many + line for line in lefts]), tuple([(None,) * many + line for line in tops])


class Together(unittest.TestCase):
    def test_more_rows_or_columns_keep_the_same_in_the_cells_that_both_have(self):
        chance = random.Random(9)
        for net, feed, beats in runs():
            kind, rows, columns = net
            more = (kind, chance.randrange(rows, 7), chance.randrange(columns, 7))
            below, beside = some_feed(chance, more[1] - rows, more[2] - columns, 9)
            larger = (feed[0] + below, feed[1] + beside)
            for small, large in zip(run(net, feed, beats), run(more, larger, beats), strict=True):
                self.assertEqual(tuple([row[:columns] for row in large[:rows]]), small)
            told = told_by_sum(more, larger, beats)
            self.assertEqual(tuple([row[:columns] for row in told[:rows]]), told_by_sum(net, feed, beats))

    def test_a_feed_that_comes_later_gives_the_same_states_later(self):
        for net, feed, beats in runs():
            for many in (1, 2, 7, 60):
                if beats + many <= 60:
                    states = run(net, later(feed, many), beats + many)
                    self.assertEqual(states[:many], [at_first(net)] * many)
                    self.assertEqual(states[many:], run(net, feed, beats))
                    self.assertEqual(
                        told_by_sum(net, later(feed, many), beats + many), told_by_sum(net, feed, beats))

    def test_product_and_paths_nets_turned_about_keep_the_same_turned_about(self):
        for net, feed, beats in runs():
            kind, rows, columns = net
            if kind != "sorting":
                about = (kind, columns, rows)
                states = run(net, feed, beats)
                states_about = run(about, (feed[1], feed[0]), beats)
                for state, state_about in zip(states, states_about, strict=True):
                    self.assertEqual(kept_in(state_about), turned(kept_in(state)))
                told = told_by_sum(net, feed, beats)
                self.assertEqual(told_by_sum(about, (feed[1], feed[0]), beats), turned(told))

    def test_nets_asked_in_turn_do_not_touch_each_other(self):
        chance = random.Random(10)
        asked = []
        for rows, columns in SIZES:
            for kind in ("product", "paths", "sorting"):
                net = (kind, rows, columns)
                feed = some_feed(chance, rows, columns, 9)
                asked.append((net, feed, run(net, feed, 12), told_by_sum(net, feed, 12)))
        for net, feed, states, told in reversed(asked):
            self.assertEqual(run(net, feed, 12), states)
            self.assertEqual(told_by_sum(net, feed, 12), told)


if __name__ == "__main__":
    unittest.main()
