"""Points 2, 3 and 5: what is refused, by which error, and which error goes first."""

import unittest

from beatgrid.beats import at_first, beat, kept_in, run
from beatgrid.errors import GridError, NoCount, NoFault, NoFeed, NoNet, NoSchedule, NoTable, NoText
from beatgrid.sums import told_by_sum
from helper import KINDS, NO_NETS, SIZES, empty_feed

REFUSALS = (NoNet, NoFeed, NoCount, NoTable, NoFault, NoSchedule, NoText)
COUNTS_REFUSED = (-1, 61, -2, 62, -60, 1000, 10 ** 29, -10 ** 29)


def feeds_refused(rows, columns):
    """Feeds with a row or a column more or fewer, or many more, or rows and columns taken for each other."""
    counts = [
        (rows + 1, columns), (rows - 1, columns), (rows, columns + 1), (rows, columns - 1),
        (rows + 1, columns - 1), (rows + 90, columns), (rows, columns + 90), (0, 0),
    ]
    if rows != columns:
        counts.append((columns, rows))
    for count in counts:
        yield empty_feed(*count)
        yield tuple([((1, 2),) * many for many in count])


class Refusals(unittest.TestCase):
    def refuses(self, refusal, asked, *handed_in):
        with self.assertRaises(ValueError) as caught:
            asked(*handed_in)
        self.assertIsInstance(caught.exception, GridError)
        self.assertEqual([one for one in REFUSALS if isinstance(caught.exception, one)], [refusal])

    def beat_refuses(self, refusal, net, lefts, tops):
        _, rows, columns = net
        state = (((0, None, None),) * columns,) * rows
        self.refuses(refusal, beat, net, state, lefts, tops)

    def test_what_is_no_net(self):
        for net in NO_NETS:
            with self.subTest(net=net):
                feed = empty_feed(min(max(net[1], 0), 100), min(max(net[2], 0), 100))
                state = (((0, None, None),) * len(feed[1]),) * len(feed[0])
                self.refuses(NoNet, at_first, net)
                self.refuses(NoNet, beat, net, state, (None,) * len(feed[0]), (None,) * len(feed[1]))
                self.refuses(NoNet, run, net, feed, 3)
                self.refuses(NoNet, told_by_sum, net, feed, 3)

    def test_each_size_from_1_to_6_is_a_net(self):
        for kind in KINDS:
            for rows in range(1, 7):
                for columns in range(1, 7):
                    net = (kind, rows, columns)
                    state = at_first(net)
                    self.assertEqual(beat(net, state, (None,) * rows, (None,) * columns), state)
                    self.assertEqual(run(net, empty_feed(rows, columns), 2), [state, state])
                    self.assertEqual(told_by_sum(net, empty_feed(rows, columns), 2), kept_in(state))

    def test_another_count_of_rows_or_columns(self):
        for kind in KINDS:
            for rows, columns in SIZES:
                net = (kind, rows, columns)
                for feed in feeds_refused(rows, columns):
                    with self.subTest(net=net, feed=feed):
                        lefts, tops = feed
                        self.beat_refuses(NoFeed, net, (1,) * len(lefts), (None,) * len(tops))
                        self.refuses(NoFeed, run, net, feed, 3)
                        self.refuses(NoFeed, run, net, feed, 0)
                        self.refuses(NoFeed, told_by_sum, net, feed, 3)
                        self.refuses(NoFeed, told_by_sum, net, feed, 0)

    def test_a_count_of_beats_that_is_not_0_to_60(self):
        for kind in KINDS:
            for rows, columns in SIZES:
                for beats in COUNTS_REFUSED:
                    self.refuses(NoCount, run, (kind, rows, columns), empty_feed(rows, columns), beats)
                    self.refuses(NoCount, told_by_sum, (kind, rows, columns), empty_feed(rows, columns), beats)

    def test_each_count_of_beats_from_0_to_60(self):
        for kind in KINDS:
            for beats in range(61):
                self.assertEqual(len(run((kind, 1, 2), empty_feed(1, 2), beats)), beats)
                self.assertEqual(len(told_by_sum((kind, 1, 2), empty_feed(1, 2), beats)), 1)

    def test_no_net_goes_ahead_of_no_feed_and_no_count(self):
        for net in NO_NETS:
            for feed in (empty_feed(2, 2), empty_feed(0, 0), empty_feed(9, 9)):
                lefts, tops = feed
                self.refuses(NoNet, beat, net, (((0, None, None),),), (None,) * len(lefts), (None,) * len(tops))
                for beats in (0, 3, -1, 61):
                    self.refuses(NoNet, run, net, feed, beats)
                    self.refuses(NoNet, told_by_sum, net, feed, beats)

    def test_no_feed_goes_ahead_of_no_count(self):
        for kind in KINDS:
            for feed in feeds_refused(2, 3):
                for beats in (-1, 61):
                    self.refuses(NoFeed, run, (kind, 2, 3), feed, beats)
                    self.refuses(NoFeed, told_by_sum, (kind, 2, 3), feed, beats)

    def test_a_feed_of_any_length_is_none_to_refuse(self):
        for length in (0, 1, 59, 60, 61, 100):
            line = (1,) * length
            for kind in KINDS:
                self.assertEqual(len(run((kind, 1, 1), ((line,), (line,)), 60)), 60)
                told_by_sum((kind, 1, 1), ((line,), (line,)), 0)


if __name__ == "__main__":
    unittest.main()
