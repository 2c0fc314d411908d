"""Points 3 to 6: the state at first, behind one beat, and behind all beats."""

import copy
import random
import unittest

from beatgrid.beats import at_first, beat, kept_in, run
from helper import KINDS, SIZES, is_kept_of, is_state_of, runs, some_feed, some_number, some_state

BIG = 10 ** 30 - 1


def by_places(net, state, lefts, tops):
    """Point 4 once more, cell for cell out of the state ahead."""
    kind, rows, columns = net
    told = {}
    for i in range(rows):
        for j in range(columns):
            a = lefts[i] if j == 0 else state[i][j - 1][1]
            b = tops[j] if i == 0 else state[i - 1][j][2]
            kept = state[i][j][0]
            both = a is not None and b is not None
            right = a
            if kind == "product" and both:
                kept += a * b
            if kind == "paths" and both:
                kept = min([thing for thing in (kept, a + b) if thing is not None])
            if kind == "sorting":
                here = sorted([thing for thing in (kept, a) if thing is not None])
                right = here[1] if a is not None and len(here) == 2 else None
                kept = here[0] if here else None
            told[i, j] = (kept, right, b)
    return tuple([tuple([told[i, j] for j in range(columns)]) for i in range(rows)])


class AtFirst(unittest.TestCase):
    def test_each_kind(self):
        self.assertEqual(at_first(("product", 1, 1)), (((0, None, None),),))
        self.assertEqual(at_first(("paths", 1, 1)), (((None, None, None),),))
        self.assertEqual(at_first(("sorting", 1, 1)), (((None, None, None),),))

    def test_rows_and_columns_unlike(self):
        cell = (0, None, None)
        self.assertEqual(at_first(("product", 2, 3)), ((cell, cell, cell), (cell, cell, cell)))
        self.assertEqual(at_first(("product", 6, 1)), ((cell,),) * 6)
        self.assertEqual(at_first(("product", 1, 6)), ((cell,) * 6,))

    def test_every_size(self):
        for kind in KINDS:
            for rows in range(1, 7):
                for columns in range(1, 7):
                    state = at_first((kind, rows, columns))
                    self.assertTrue(is_state_of((kind, rows, columns), state))
                    kept = 0 if kind == "product" else None
                    self.assertEqual(state, (((kept, None, None),) * columns,) * rows)


class OneBeat(unittest.TestCase):
    def one_cell(self, kind, kept, a, b):
        """What a cell tells that kept this, with other things passed in the state ahead."""
        told = beat((kind, 1, 1), (((kept, 77, 88),),), (a,), (b,))
        self.assertTrue(is_state_of((kind, 1, 1), told))
        return told[0][0]

    def test_a_product_cell(self):
        for kept, a, b, told in (
            (0, 3, 4, 12), (5, 3, 4, 17), (5, -3, 4, -7), (-5, -3, -4, 7), (5, 0, 4, 5), (5, 3, 0, 5),
            (5, None, 4, 5), (5, 3, None, 5), (-5, None, None, -5), (0, BIG, BIG, BIG * BIG), (1, BIG, -1, 1 - BIG),
        ):
            self.assertEqual(self.one_cell("product", kept, a, b), (told, a, b))

    def test_a_paths_cell(self):
        for kept, a, b, told in (
            (None, 3, 4, 7), (8, 3, 4, 7), (7, 3, 4, 7), (6, 3, 4, 6), (0, 3, 4, 0), (0, -3, 2, -1), (-9, -3, 2, -9),
            (None, 0, 0, 0), (5, 0, 0, 0), (None, None, 4, None), (None, 3, None, None), (None, None, None, None),
            (6, None, 1, 6), (6, 1, None, 6), (6, None, None, 6), (None, BIG, BIG, BIG + BIG), (BIG, BIG, -BIG, 0),
        ):
            self.assertEqual(self.one_cell("paths", kept, a, b), (told, a, b))

    def test_a_sorting_cell(self):
        for kept, a, told, right in (
            (None, None, None, None), (3, None, 3, None), (0, None, 0, None), (None, 3, 3, None), (None, 0, 0, None),
            (3, 2, 2, 3), (3, 4, 3, 4), (3, 3, 3, 3), (0, 1, 0, 1), (1, 0, 0, 1), (0, -1, -1, 0), (-1, 0, -1, 0),
            (-2, -3, -3, -2), (-3, -2, -3, -2), (BIG, BIG - 1, BIG - 1, BIG), (-BIG, BIG, -BIG, BIG),
        ):
            for b in (None, 0, -5, BIG):
                self.assertEqual(self.one_cell("sorting", kept, a, b), (told, right, b))

    def test_cells_take_what_was_passed_in_the_state_ahead(self):
        state = (((1, 2, 3), (4, 5, 6)), ((7, 8, 9), (10, 11, 12)))
        self.assertEqual(
            beat(("product", 2, 2), state, (20, 30), (40, 50)),
            (((801, 20, 40), (104, 2, 50)), ((97, 30, 3), (58, 8, 6))))
        self.assertEqual(
            beat(("paths", 2, 2), state, (-20, 30), (4, -50)),
            (((-16, -20, 4), (-48, 2, -50)), ((7, 30, 3), (10, 8, 6))))
        self.assertEqual(
            beat(("sorting", 2, 2), state, (20, 3), (40, None)),
            (((1, 20, 40), (2, 4, None)), ((3, 7, 3), (8, 10, 6))))

    def test_rows_and_columns_unlike(self):
        state = (((0, 1, 2), (0, 3, 4), (0, 5, 6)),)
        self.assertEqual(
            beat(("product", 1, 3), state, (7,), (8, 9, None)), (((56, 7, 8), (9, 1, 9), (0, 3, None)),))
        state = (((None, 1, 2),), ((None, 3, 4),), ((None, 5, 6),))
        self.assertEqual(
            beat(("paths", 3, 1), state, (7, None, 9), (8,)),
            (((15, 7, 8),), ((None, None, 2),), ((13, 9, 4),)))

    def test_each_cell_of_states_that_no_run_comes_to(self):
        chance = random.Random(4)
        for kind in KINDS:
            for rows, columns in SIZES:
                for _ in range(30):
                    net = (kind, rows, columns)
                    state = some_state(chance, net)
                    lefts = tuple([some_number(chance) for _ in range(rows)])
                    tops = tuple([some_number(chance) for _ in range(columns)])
                    kept_back = copy.deepcopy((net, state, lefts, tops))
                    told = beat(net, state, lefts, tops)
                    self.assertEqual(told, by_places(net, state, lefts, tops))
                    self.assertTrue(is_state_of(net, told))
                    self.assertEqual((net, state, lefts, tops), kept_back)
                    self.assertEqual(beat(net, state, lefts, tops), told)

    def test_what_was_told_may_be_handed_in(self):
        net = ("product", 1, 1)
        state = at_first(net)
        for _ in range(3):
            state = beat(net, state, (BIG,), (BIG,))
            self.assertEqual(beat(net, state, (state[0][0][0],), (2,)), (((state[0][0][0] * 3, state[0][0][0], 2),),))
        self.assertEqual(state, (((3 * BIG * BIG, BIG, BIG),),))


class KeptIn(unittest.TestCase):
    def test_what_all_cells_keep(self):
        self.assertEqual(kept_in((((1, 2, 3), (None, 5, 6)), ((-7, 8, 9), (0, None, None)))), ((1, None), (-7, 0)))
        self.assertEqual(kept_in((((5, None, 6),),)), ((5,),))
        self.assertEqual(kept_in((((1, 2, 3),), ((4, 5, 6),), ((7, 8, 9),))), ((1,), (4,), (7,)))

    def test_every_size(self):
        chance = random.Random(5)
        for kind in KINDS:
            for rows, columns in SIZES:
                net = (kind, rows, columns)
                state = some_state(chance, net)
                ahead = copy.deepcopy(state)
                kept = kept_in(state)
                self.assertTrue(is_kept_of(net, kept))
                self.assertEqual(state, ahead)
                for i in range(rows):
                    for j in range(columns):
                        self.assertEqual(kept[i][j], state[i][j][0])


class Run(unittest.TestCase):
    def test_a_product_net(self):
        none = (0, None, None)
        self.assertEqual(run(("product", 2, 2), (((1, 2), (None, 3, 4)), ((5, 7), (None, 6, 8))), 4), [
            (((5, 1, 5), none), (none, none)),
            (((19, 2, 7), (6, 1, 6)), ((15, 3, 5), none)),
            (((19, None, None), (22, 2, 8)), ((43, 4, 7), (18, 3, 6))),
            (((19, None, None), (22, None, None)), ((43, None, None), (50, 4, 8))),
        ])

    def test_a_paths_net(self):
        self.assertEqual(run(("paths", 1, 2), (((3, None, -1),), ((4, 9, 2), (10, 1))), 4), [
            (((7, 3, 4), (None, None, 10)),),
            (((7, None, 9), (4, 3, 1)),),
            (((1, -1, 2), (4, None, None)),),
            (((1, None, None), (4, -1, None)),),
        ])

    def test_a_sorting_net(self):
        nothing = (None, None, None)
        self.assertEqual(run(("sorting", 1, 3), (((2, 5, None, 2, 1),), ((None,), (8,), ())), 7), [
            (((2, None, None), (None, None, 8), nothing),),
            (((2, 5, None), nothing, nothing),),
            (((2, None, None), (5, None, None), nothing),),
            (((2, 2, None), (5, None, None), nothing),),
            (((1, 2, None), (2, 5, None), nothing),),
            (((1, None, None), (2, 2, None), (5, None, None)),),
            (((1, None, None), (2, None, None), (2, 5, None)),),
        ])

    def test_a_sorting_net_passes_down_beat_by_beat(self):
        self.assertEqual(run(("sorting", 3, 1), (((), (4,), ()), ((7, -3),)), 4), [
            (((None, None, 7),), ((4, None, None),), ((None, None, None),)),
            (((None, None, -3),), ((4, None, 7),), ((None, None, None),)),
            (((None, None, None),), ((4, None, -3),), ((None, None, 7),)),
            (((None, None, None),), ((4, None, None),), ((None, None, -3),)),
        ])

    def test_no_beats(self):
        for kind in KINDS:
            told = run((kind, 1, 2), (((1, 2),), ((3,), (4,))), 0)
            self.assertEqual(told, [])
            self.assertIs(type(told), list)

    def test_each_state_is_what_the_beat_makes_of_the_one_ahead(self):
        for net, feed, beats in runs():
            lefts, tops = feed
            state = at_first(net)
            states = run(net, feed, beats)
            self.assertEqual(len(states), beats)
            for when, told in enumerate(states):
                self.assertTrue(is_state_of(net, told))
                state = beat(
                    net, state,
                    tuple([line[when] if when < len(line) else None for line in lefts]),
                    tuple([line[when] if when < len(line) else None for line in tops]))
                self.assertEqual(told, state)

    def test_a_feed_that_ends_is_fed_on_by_none(self):
        chance = random.Random(6)
        for kind in KINDS:
            lefts, tops = some_feed(chance, 3, 2, 7)
            filled = [tuple([line + (None,) * (20 - len(line)) for line in lines]) for lines in (lefts, tops)]
            self.assertEqual(run((kind, 3, 2), (lefts, tops), 20), run((kind, 3, 2), tuple(filled), 20))

    def test_a_feed_that_goes_on_behind_the_last_beat(self):
        chance = random.Random(7)
        for kind in KINDS:
            lefts, tops = some_feed(chance, 3, 2, 20)
            cut = (tuple([line[:5] for line in lefts]), tuple([line[:5] for line in tops]))
            self.assertEqual(run((kind, 3, 2), (lefts, tops), 5), run((kind, 3, 2), cut, 5))
            self.assertEqual(run((kind, 3, 2), (lefts, tops), 5), run((kind, 3, 2), (lefts, tops), 60)[:5])

    def test_the_list_may_be_changed_by_whoever_got_it(self):
        chance = random.Random(8)
        for kind in KINDS:
            net = (kind, 2, 3)
            feed = some_feed(chance, 2, 3, 6)
            handed_in = copy.deepcopy((net, feed))
            told = run(net, feed, 6)
            again = copy.deepcopy(told)
            other = run(net, feed, 6)
            self.assertIsNot(told, other)
            told[0] = None
            told.reverse()
            told.append("more")
            self.assertEqual(other, again)
            other.clear()
            self.assertEqual(run(net, feed, 6), again)
            self.assertEqual(run(net, feed, 7)[:6], again)
            self.assertEqual((net, feed), handed_in)


if __name__ == "__main__":
    unittest.main()
