"""Point 7: what all cells keep behind so many beats is told by one sum."""

import copy
import unittest

from beatgrid.beats import at_first, kept_in, run
from beatgrid.sums import told_by_sum
from helper import KINDS, SIZES, empty_feed, is_kept_of, runs

BIG = 10 ** 30 - 1


class ToldBySum(unittest.TestCase):
    def told_of_each_count(self, net, feed, counts):
        for beats, kept in enumerate(counts):
            with self.subTest(beats=beats):
                self.assertEqual(told_by_sum(net, feed, beats), kept)

    def test_a_product_net(self):
        self.told_of_each_count(("product", 2, 2), (((1, 2), (None, 3, 4)), ((5, 7), (None, 6, 8))), (
            ((0, 0), (0, 0)), ((5, 0), (0, 0)), ((19, 6), (15, 0)), ((19, 22), (43, 18)), ((19, 22), (43, 50)),
            ((19, 22), (43, 50)),
        ))

    def test_a_paths_net(self):
        self.told_of_each_count(("paths", 1, 2), (((3, None, -1),), ((4, 9, 2), (10, 1))), (
            ((None, None),), ((7, None),), ((7, 4),), ((1, 4),), ((1, 4),),
        ))

    def test_a_sorting_net(self):
        self.told_of_each_count(("sorting", 1, 3), (((2, 5, None, 2, 1),), ((None,), (8,), ())), (
            ((None, None, None),), ((2, None, None),), ((2, None, None),), ((2, 5, None),), ((2, 5, None),),
            ((1, 2, None),), ((1, 2, 5),), ((1, 2, 2),), ((1, 2, 2),),
        ))

    def test_one_cell(self):
        feed = (((2, None, -3, 4),), ((5, 6, None, 7),))
        self.assertEqual(told_by_sum(("product", 1, 1), feed, 4), ((38,),))
        self.assertEqual(told_by_sum(("paths", 1, 1), feed, 4), ((7,),))
        self.assertEqual(told_by_sum(("sorting", 1, 1), feed, 4), ((-3,),))

    def test_no_beats_and_none_fed(self):
        for kind in KINDS:
            for rows, columns in SIZES:
                net = (kind, rows, columns)
                full = (((1, 2),) * rows, ((3, 4),) * columns)
                nothing = (((None,) * 9,) * rows, ((None,) * 9,) * columns)
                first = kept_in(at_first(net))
                self.assertEqual(told_by_sum(net, full, 0), first)
                self.assertEqual(told_by_sum(net, nothing, 60), first)
                self.assertEqual(told_by_sum(net, empty_feed(rows, columns), 60), first)

    def test_sixty_beats_of_six_rows_and_columns(self):
        feed = (((BIG,) * 60,) * 6, ((-BIG,) * 60,) * 6)
        places = [[(i, j) for j in range(6)] for i in range(6)]
        self.assertEqual(
            told_by_sum(("product", 6, 6), feed, 60),
            tuple([tuple([-(60 - max(i, j)) * BIG * BIG for i, j in row]) for row in places]))
        self.assertEqual(told_by_sum(("paths", 6, 6), feed, 60), ((0,) * 6,) * 6)
        self.assertEqual(told_by_sum(("sorting", 6, 6), feed, 60), ((BIG,) * 6,) * 6)

    def test_equal_numbers_are_kept_as_often_as_fed(self):
        feed = (((4, 4, -1, 4, -1),), ((),) * 6)
        self.assertEqual(told_by_sum(("sorting", 1, 6), feed, 11), ((-1, -1, 4, 4, 4, None),))
        self.assertEqual(told_by_sum(("sorting", 1, 6), feed, 6), ((-1, -1, 4, None, None, None),))

    def test_sorting_does_without_the_tops(self):
        lefts = ((3, 1, 2), (None, 9, -9))
        for tops in (((), (), ()), ((1, 2, 3), (None,), (BIG,))):
            self.assertEqual(told_by_sum(("sorting", 2, 3), (lefts, tops), 5), ((1, 2, 3), (-9, 9, None)))

    def test_it_tells_what_a_run_keeps(self):
        for net, feed, beats in runs():
            states = [at_first(net)] + run(net, feed, beats)
            handed_in = copy.deepcopy((net, feed))
            told = told_by_sum(net, feed, beats)
            self.assertTrue(is_kept_of(net, told))
            self.assertEqual(told, kept_in(states[beats]))
            self.assertEqual((net, feed), handed_in)

    def test_it_tells_what_a_run_keeps_behind_each_beat(self):
        for net, feed, beats in runs():
            if beats == 17:
                states = [at_first(net)] + run(net, feed, beats)
                for when, state in enumerate(states):
                    self.assertEqual(told_by_sum(net, feed, when), kept_in(state))


if __name__ == "__main__":
    unittest.main()
