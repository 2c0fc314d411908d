"""Points 2, 3 and 5: what is refused, by which error, and which error goes first."""

import unittest

from beatgrid.beats import at_first, beat, kept_in, run
from beatgrid.errors import NoCount, NoFault, NoFeed, NoNet, NoSchedule
from beatgrid.folding import folded, folded_run, wrong
from beatgrid.judging import faulty, judged, off_sum
from beatgrid.sums import told_by_sum
from helper import COUNTS_REFUSED, KINDS, NO_NETS, SIZES, Asking, empty_feed, feeds_refused


BAD_FAULTS = [(99, 99, 99, 99, 99)]
BAD_SCHEDULE = [((99, 99, 99),)]


def asked_of_a_run(net, feed, beats):
    """All that is handed a net, a feed and a count of beats, and further on what is refused itself."""
    return [
        (run, net, feed, beats), (told_by_sum, net, feed, beats), (faulty, net, feed, beats, []),
        (faulty, net, feed, beats, BAD_FAULTS), (folded_run, net, feed, beats, []),
        (folded_run, net, feed, beats, BAD_SCHEDULE),
    ]


def asked_of_a_feed(net, feed):
    """All that is handed a net, a feed and no count of beats."""
    return [(asked, net, feed, states) for asked in (judged, off_sum) for states in ([], [(((0, None, None),),)])]


def asked_of_beats(net, beats):
    """All that is handed a net, a count of beats and no feed."""
    return [
        (wrong, net, beats, []), (wrong, net, beats, BAD_SCHEDULE), (folded, net, beats, 1), (folded, net, beats, 0),
    ]


class Refusals(Asking):
    def beat_refuses(self, refusal, net, lefts, tops):
        _, rows, columns = net
        state = (((0, None, None),) * columns,) * rows
        self.refuses(refusal, beat, net, state, lefts, tops)

    def test_what_is_no_net(self):
        for net in NO_NETS:
            with self.subTest(net=net):
                feed = empty_feed(min(max(net[1], 0), 100), min(max(net[2], 0), 100))
                state = (((0, None, None),) * len(feed[1]),) * len(feed[0])
                self.refuses(NoNet, at_first, net)
                self.refuses(NoNet, beat, net, state, (None,) * len(feed[0]), (None,) * len(feed[1]))
                for handed_in in asked_of_a_run(net, feed, 3) + asked_of_a_feed(net, feed) + asked_of_beats(net, 3):
                    self.refuses(NoNet, *handed_in)

    def test_each_size_from_1_to_6_is_a_net(self):
        for kind in KINDS:
            for rows in range(1, 7):
                for columns in range(1, 7):
                    net = (kind, rows, columns)
                    state = at_first(net)
                    self.assertEqual(beat(net, state, (None,) * rows, (None,) * columns), state)
                    feed = empty_feed(rows, columns)
                    self.assertEqual(run(net, feed, 2), [state, state])
                    self.assertEqual(told_by_sum(net, feed, 2), kept_in(state))
                    self.assertEqual(faulty(net, feed, 2, []), [state, state])
                    self.assertIsNone(judged(net, feed, [state, state]))
                    self.assertIsNone(off_sum(net, feed, [state, state]))
                    self.assertIsNone(wrong(net, 2, folded(net, 2, 1)))
                    self.assertEqual(folded_run(net, feed, 2, folded(net, 2, 1)), kept_in(state))

    def test_another_count_of_rows_or_columns(self):
        for kind in KINDS:
            for rows, columns in SIZES:
                net = (kind, rows, columns)
                for feed in feeds_refused(rows, columns):
                    with self.subTest(net=net, feed=feed):
                        lefts, tops = feed
                        self.beat_refuses(NoFeed, net, (1,) * len(lefts), (None,) * len(tops))
                        for handed_in in asked_of_a_run(net, feed, 3) + asked_of_a_run(net, feed, 0):
                            self.refuses(NoFeed, *handed_in)
                        for handed_in in asked_of_a_feed(net, feed):
                            self.refuses(NoFeed, *handed_in)

    def test_a_count_of_beats_that_is_not_0_to_60(self):
        for kind in KINDS:
            for rows, columns in SIZES:
                net = (kind, rows, columns)
                for beats in COUNTS_REFUSED:
                    for handed_in in asked_of_a_run(net, empty_feed(rows, columns), beats) + asked_of_beats(net, beats):
                        self.refuses(NoCount, *handed_in)

    def test_each_count_of_beats_from_0_to_60(self):
        for kind in KINDS:
            for beats in range(61):
                self.assertEqual(len(run((kind, 1, 2), empty_feed(1, 2), beats)), beats)
                self.assertEqual(len(told_by_sum((kind, 1, 2), empty_feed(1, 2), beats)), 1)
                self.assertEqual(len(faulty((kind, 1, 2), empty_feed(1, 2), beats, [])), beats)
                schedule = folded((kind, 1, 2), beats, 2)
                self.assertIsNone(wrong((kind, 1, 2), beats, schedule))
                self.assertEqual(len(folded_run((kind, 1, 2), empty_feed(1, 2), beats, schedule)), 1)

    def test_no_net_goes_ahead_of_no_feed_and_no_count(self):
        for net in NO_NETS:
            for feed in (empty_feed(2, 2), empty_feed(0, 0), empty_feed(9, 9)):
                lefts, tops = feed
                self.refuses(NoNet, beat, net, (((0, None, None),),), (None,) * len(lefts), (None,) * len(tops))
                for beats in (0, 3, -1, 61):
                    for handed_in in asked_of_a_run(net, feed, beats) + asked_of_beats(net, beats):
                        self.refuses(NoNet, *handed_in)
                for handed_in in asked_of_a_feed(net, feed):
                    self.refuses(NoNet, *handed_in)

    def test_no_feed_goes_ahead_of_no_count(self):
        for kind in KINDS:
            for feed in feeds_refused(2, 3):
                for beats in (-1, 61):
                    for handed_in in asked_of_a_run((kind, 2, 3), feed, beats):
                        self.refuses(NoFeed, *handed_in)

    def test_what_is_refused_where_nothing_else_is(self):
        for kind in KINDS:
            net, feed = (kind, 2, 3), empty_feed(2, 3)
            self.refuses(NoFault, faulty, net, feed, 3, BAD_FAULTS)
            self.refuses(NoSchedule, folded_run, net, feed, 3, BAD_SCHEDULE)
            self.refuses(NoSchedule, folded_run, net, feed, 3, [])
            self.refuses(NoCount, folded, net, 3, 0)

    def test_a_feed_of_any_length_is_none_to_refuse(self):
        for length in (0, 1, 59, 60, 61, 100):
            line = (1,) * length
            for kind in KINDS:
                self.assertEqual(len(run((kind, 1, 1), ((line,), (line,)), 60)), 60)
                told_by_sum((kind, 1, 1), ((line,), (line,)), 0)


if __name__ == "__main__":
    unittest.main()
