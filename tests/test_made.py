"""Points 8 and 9: what is made for tables and numbers of any size, and which tables are refused."""

import copy
import itertools
import random
import unittest

from beatgrid.beats import kept_in, run
from beatgrid.errors import NoCount, NoTable
from beatgrid.made import beats_for, feeds, in_order, multiplied, shortest
from beatgrid.sums import told_by_sum
from helper import Asking, is_number

BIG = 10 ** 30 - 1
NO_TABLES = (
    (), ((),), ((), ()), ((1,),) * 7, ((1,) * 7,), ((1,) * 7,) * 7, ((1,),) * 100, ((1,) * 100,) * 2,
    ((1, 2), (3,)), ((1,), (2, 3)), ((1, 2), (3, 4), (5,)), ((1, 2), ()), ((), (1,)), ((1,) * 6, (1,) * 7),
    ((None,) * 7,), ((None, 1), (None,)),
)


def some_table(chance, rows, columns, things):
    return tuple([tuple([chance.choice(things) for _ in range(columns)]) for _ in range(rows)])


def by_hand(one, other):
    """The product, number by number."""
    return tuple([
        tuple([sum(row[k] * other[k][j] for k in range(len(other))) for j in range(len(other[0]))])
        for row in one])


def ways_by_hand(lengths):
    """The shortest ways, each way that comes to no place twice tried."""
    many = len(lengths)
    told = [[None] * many for _ in range(many)]
    for count in range(1, many + 1):
        for way in itertools.permutations(range(many), count):
            ties = [lengths[a][b] for a, b in zip(way, way[1:])]
            if None not in ties:
                ahead = told[way[0]][way[-1]]
                told[way[0]][way[-1]] = sum(ties) if ahead is None else min(ahead, sum(ties))
    return tuple([tuple(row) for row in told])


class Feeds(Asking):
    def test_rows_late_from_the_left_and_columns_late_from_above(self):
        self.assertEqual(feeds(((1, 2), (3, 4)), ((5, 6), (7, 8))), (((1, 2), (None, 3, 4)), ((5, 7), (None, 6, 8))))
        self.assertEqual(
            feeds(((1, 2, 3),), ((4,), (5,), (6,))), (((1, 2, 3),), ((4, 5, 6),)))
        self.assertEqual(
            feeds(((1,), (2,), (3,)), ((4, 5, 6),)),
            (((1,), (None, 2), (None, None, 3)), ((4,), (None, 5), (None, None, 6))))

    def test_tables_of_1_and_of_6(self):
        self.assertEqual(feeds(((7,),), ((-8,),)), (((7,),), ((-8,),)))
        big = ((BIG, -BIG, 0, 1, -1, BIG - 1),) * 6
        lefts, tops = feeds(big, big)
        self.assertEqual(lefts, tuple([(None,) * i + big[0] for i in range(6)]))
        self.assertEqual(tops, tuple([(None,) * j + (big[0][j],) * 6 for j in range(6)]))

    def test_none_in_tables(self):
        self.assertEqual(
            feeds(((None, 1), (2, None)), ((None, 3), (4, None))),
            (((None, 1), (None, 2, None)), ((None, 4), (None, 3, None))))

    def test_how_many_beats(self):
        self.assertEqual(beats_for(((1,),), ((2,),)), 1)
        self.assertEqual(beats_for(((1, 2), (3, 4)), ((5, 6), (7, 8))), 4)
        self.assertEqual(beats_for(((1, 2, 3),), ((4,), (5,), (6,))), 3)
        self.assertEqual(beats_for(((1,), (2,), (3,)), ((4, 5, 6, 7),)), 6)
        self.assertEqual(beats_for(((None,) * 6,) * 6, ((None,) * 6,) * 6), 16)
        for rows, length, columns in itertools.product(range(1, 7), repeat=3):
            told = beats_for(((1,) * length,) * rows, ((2,) * columns,) * length)
            self.assertTrue(is_number(told))
            self.assertEqual(told, rows + columns + length - 2)

    def test_a_product_net_so_fed_keeps_the_product_and_none_does_a_beat_ahead(self):
        chance = random.Random(31)
        for rows, length, columns in itertools.product((1, 2, 3, 6), repeat=3):
            one = some_table(chance, rows, length, (-3, 1, 2, BIG, -BIG))
            other = some_table(chance, length, columns, (-3, 1, 2, BIG, -BIG))
            net = ("product", rows, columns)
            feed, beats = feeds(one, other), beats_for(one, other)
            states = run(net, feed, beats)
            self.assertEqual(kept_in(states[-1]), by_hand(one, other))
            self.assertEqual(told_by_sum(net, feed, beats), by_hand(one, other))
            self.assertEqual(told_by_sum(net, feed, 60), by_hand(one, other))
            self.assertNotEqual(told_by_sum(net, feed, beats - 1), by_hand(one, other))

    def test_what_is_no_table(self):
        for asked in (feeds, beats_for, multiplied):
            for table in NO_TABLES:
                with self.subTest(asked=asked.__name__, table=table):
                    fitting = ((1, 2),) * max(1, min(6, len(table[0]) if table else 1))
                    self.refuses(NoTable, asked, table, fitting)
                    self.refuses(NoTable, asked, ((1,) * max(1, min(6, len(table))),) * 2, table)
                    self.refuses(NoTable, asked, table, table)
                    self.refuses(NoTable, asked, table, ((1, None), (None, 2)))

    def test_tables_that_do_not_fit(self):
        for asked in (feeds, beats_for, multiplied):
            for rows, length, others, columns in itertools.product((1, 2, 3, 6), repeat=4):
                one, other = ((1,) * length,) * rows, ((2,) * columns,) * others
                if length == others:
                    asked(one, other)
                else:
                    self.refuses(NoTable, asked, one, other)


class Multiplied(Asking):
    def test_tables(self):
        self.assertEqual(multiplied(((1, 2), (3, 4)), ((5, 6), (7, 8))), ((19, 22), (43, 50)))
        self.assertEqual(multiplied(((7,),), ((-8,),)), ((-56,),))
        self.assertEqual(multiplied(((1, 2, 3),), ((4,), (5,), (6,))), ((32,),))
        self.assertEqual(multiplied(((1,), (2,)), ((3, 4, 5),)), ((3, 4, 5), (6, 8, 10)))
        self.assertEqual(multiplied(((0, 0),), ((1, 2), (3, 4))), ((0, 0),))

    def test_six_rows_and_columns_of_thirty_figures(self):
        big = ((BIG,) * 6,) * 6
        less = ((-BIG,) * 6,) * 6
        self.assertEqual(multiplied(big, less), ((-6 * BIG * BIG,) * 6,) * 6)

    def test_what_was_told_may_be_multiplied_on(self):
        table = ((BIG, 1), (-2, 3))
        by_hands = table
        for _ in range(4):
            table, by_hands = multiplied(table, table), by_hand(by_hands, by_hands)
            self.assertEqual(table, by_hands)

    def test_every_size(self):
        chance = random.Random(32)
        for rows, length, columns in itertools.product(range(1, 7), repeat=3):
            one = some_table(chance, rows, length, (-2, -1, 0, 1, 5, BIG, -BIG))
            other = some_table(chance, length, columns, (-2, -1, 0, 1, 5, BIG, -BIG))
            told = multiplied(one, other)
            self.assertEqual(told, by_hand(one, other))
            self.assertIs(type(told), tuple)
            self.assertEqual({type(row) for row in told}, {tuple})

    def test_none_in_a_table(self):
        full = ((1, 2), (3, 4))
        for row, column in itertools.product(range(2), repeat=2):
            gap = [list(line) for line in full]
            gap[row][column] = None
            gap = tuple([tuple(line) for line in gap])
            self.refuses(NoTable, multiplied, gap, full)
            self.refuses(NoTable, multiplied, full, gap)
            self.refuses(NoTable, multiplied, gap, gap)
            feeds(gap, gap)
            self.assertEqual(beats_for(gap, gap), 4)
        self.refuses(NoTable, multiplied, ((None,),), ((1,),))
        self.refuses(NoTable, multiplied, ((None, 1),), ((1,),))


class Shortest(Asking):
    def test_ways(self):
        self.assertEqual(shortest(((0, 5, 1), (2, 0, None), (None, 3, 0))), ((0, 4, 1), (2, 0, 3), (5, 3, 0)))
        self.assertEqual(shortest(((None, 4), (None, None))), ((0, 4), (None, 0)))
        self.assertEqual(shortest(((None, 0), (7, None))), ((0, 0), (7, 0)))

    def test_a_tie_from_a_place_to_itself(self):
        self.assertEqual(shortest(((5,),)), ((0,),))
        self.assertEqual(shortest(((None,),)), ((0,),))
        self.assertEqual(shortest(((0,),)), ((0,),))
        self.assertEqual(shortest(((9, 2), (BIG, 1))), ((0, 2), (BIG, 0)))

    def test_no_tie_at_all(self):
        for many in range(1, 7):
            told = shortest(((None,) * many,) * many)
            self.assertEqual(told, tuple([tuple([0 if i == j else None for j in range(many)]) for i in range(many)]))

    def test_ways_of_as_many_ties_as_there_can_be(self):
        for many in range(1, 7):
            line = tuple([tuple([BIG if j == i + 1 else None for j in range(many)]) for i in range(many)])
            self.assertEqual(shortest(line), tuple([
                tuple([(j - i) * BIG if j >= i else None for j in range(many)]) for i in range(many)]))
            ring = tuple([tuple([1 if j == (i + 1) % many else 90 for j in range(many)]) for i in range(many)])
            self.assertEqual(shortest(ring), tuple([
                tuple([(j - i) % many for j in range(many)]) for i in range(many)]))

    def test_every_size(self):
        chance = random.Random(33)
        for many in range(1, 7):
            for things in ((None, 1, 3, 9), (None, None, None, 0, 2), (0, 1, 50, BIG), (None, BIG, BIG // 3)):
                for _ in range(6):
                    table = some_table(chance, many, many, things)
                    told = shortest(table)
                    self.assertEqual(told, ways_by_hand(table))
                    self.assertEqual({type(row) for row in told} | {type(told)}, {tuple})
                    self.assertEqual(shortest(told), told)

    def test_no_tables_and_ties_below_0(self):
        for table in NO_TABLES:
            self.refuses(NoTable, shortest, table)
        for table in (
            ((1, 2),), ((1,), (2,)), ((1, 2, 3), (4, 5, 6)), ((None,) * 6,) * 5, ((None,) * 5,) * 6,
            ((-1,),), ((0, -1), (1, 0)), ((0, 1), (-1, 0)), ((-1, 1), (1, 0)), ((0, 1), (1, -BIG)),
            ((None, None), (None, -1)), ((-1, 1, 1),), ((-1,),) * 7,
        ):
            self.refuses(NoTable, shortest, table)


class InOrder(Asking):
    def test_numbers(self):
        self.assertEqual(in_order([3, 1, 2]), [1, 2, 3])
        self.assertEqual(in_order([5]), [5])
        self.assertEqual(in_order([0, 0]), [0, 0])
        self.assertEqual(in_order([6, 5, 4, 3, 2, 1]), [1, 2, 3, 4, 5, 6])
        self.assertEqual(in_order([BIG, -BIG, 0, BIG, -BIG, -1]), [-BIG, -BIG, -1, 0, BIG, BIG])

    def test_every_order(self):
        for many in range(1, 7):
            for numbers in itertools.product(range(-1, 2), repeat=many):
                self.assertEqual(in_order(list(numbers)), sorted(numbers))
        for numbers in itertools.permutations((-7, -1, 0, 2, 30, BIG)):
            self.assertEqual(in_order(list(numbers)), sorted(numbers))

    def test_the_list_handed_in_stays_and_the_one_told_is_another(self):
        for numbers in ([2], [1, 2], [2, 1], [3, 1, 2, 1]):
            ahead = list(numbers)
            told = in_order(numbers)
            self.assertIs(type(told), list)
            self.assertIsNot(told, numbers)
            told.append(-9)
            told[0] = 77
            self.assertEqual(numbers, ahead)
            self.assertEqual(in_order(numbers), sorted(ahead))
            again = in_order(numbers)
            numbers.clear()
            self.assertEqual(again, sorted(ahead))

    def test_no_numbers_or_more_than_six(self):
        for numbers in ([], [1] * 7, list(range(8)), [0] * 100):
            ahead = list(numbers)
            self.refuses(NoCount, in_order, numbers)
            self.assertEqual(numbers, ahead)


class Tables(unittest.TestCase):
    def test_what_is_handed_in_stays(self):
        one, other = ((1, 2), (3, 4), (5, 6)), ((7, 8, 9), (-1, 0, BIG))
        ties = ((3, None, 1), (1, 9, 2), (None, 4, 0))
        handed_in = copy.deepcopy((one, other, ties))
        first = feeds(one, other), beats_for(one, other), multiplied(one, other), shortest(ties)
        again = feeds(one, other), beats_for(one, other), multiplied(one, other), shortest(ties)
        self.assertEqual(first, again)
        self.assertEqual((one, other, ties), handed_in)


if __name__ == "__main__":
    unittest.main()
