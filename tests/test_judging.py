"""Points 10 and 11: runs with faults, the first thing wrong in a run, and the first one off the sum."""

import copy
import random
import unittest

from beatgrid.beats import at_first, beat, run
from beatgrid.errors import NoCount, NoFault, NoFeed, NoNet
from beatgrid.judging import faulty, judged, off_sum
from beatgrid.sums import told_by_sum
from helper import (
    COUNTS_REFUSED, KINDS, NO_NETS, Asking, empty_feed, feeds_refused, is_state_of, runs, some_feed, some_number,
)

BIG = 10 ** 30 - 1


def fed(feed, when):
    return [tuple([line[when] if when < len(line) else None for line in lines]) for lines in feed]


def by_hand(net, feed, beats, faults):
    """The states with faults, each fault set where it is, one behind the other."""
    state = at_first(net)
    states = []
    for when in range(beats):
        state = beat(net, state, *fed(feed, when))
        for at, row, column, part, thing in faults:
            if at == when:
                rows = [[list(cell) for cell in line] for line in state]
                rows[row][column][part] = thing
                state = tuple([tuple([tuple(cell) for cell in line]) for line in rows])
        states.append(state)
    return states


def places(net):
    _, rows, columns = net
    return [(row, column) for row in range(rows) for column in range(columns)]


def first_not_made(net, feed, states):
    """Point 11 once more: the first cell that isn't what the beat makes."""
    ahead = at_first(net)
    for when, state in enumerate(states):
        right = beat(net, ahead, *fed(feed, when))
        for row, column in places(net):
            if state[row][column] != right[row][column]:
                return when, row, column
        ahead = state
    return None


def first_off(net, feed, states):
    """Point 11 once more: the first cell that keeps something else than the sum tells."""
    for when, state in enumerate(states):
        told = told_by_sum(net, feed, when + 1)
        for row, column in places(net):
            if state[row][column][0] != told[row][column]:
                return when, row, column
    return None


def some_faults(chance, net, beats, many):
    kind, rows, columns = net
    faults = []
    for _ in range(many if beats else 0):
        part = chance.randrange(3)
        thing = some_number(chance)
        if kind == "product" and part == 0 and thing is None:
            thing = 0
        faults.append((chance.randrange(beats), chance.randrange(rows), chance.randrange(columns), part, thing))
    return faults


def runs_with_faults():
    """Runs of each kind with a list of faults, the same ones each time."""
    chance = random.Random(40)
    for net, feed, beats in runs():
        if beats in (0, 1, 5, 17) or net[1:] == (2, 3):
            for many in (0, 1, 2, 9):
                yield net, feed, beats, some_faults(chance, net, beats, many)


class Faulty(Asking):
    net = ("product", 2, 2)
    feed = (((1, 2), (None, 3, 4)), ((5, 7), (None, 6, 8)))

    def test_each_part(self):
        none = (0, None, None)
        self.assertEqual(faulty(self.net, self.feed, 2, [(0, 0, 0, 0, 50)]), [
            (((50, 1, 5), none), (none, none)), (((64, 2, 7), (6, 1, 6)), ((15, 3, 5), none))])
        self.assertEqual(faulty(self.net, self.feed, 2, [(0, 0, 0, 1, 50)]), [
            (((5, 50, 5), none), (none, none)), (((19, 2, 7), (300, 50, 6)), ((15, 3, 5), none))])
        self.assertEqual(faulty(self.net, self.feed, 2, [(0, 0, 0, 2, 50)]), [
            (((5, 1, 50), none), (none, none)), (((19, 2, 7), (6, 1, 6)), ((150, 3, 50), none))])
        self.assertEqual(faulty(self.net, self.feed, 2, [(0, 0, 0, 2, None)]), [
            (((5, 1, None), none), (none, none)), (((19, 2, 7), (6, 1, 6)), ((0, 3, None), none))])

    def test_paths_and_sorting_nets(self):
        self.assertEqual(
            faulty(("paths", 1, 2), (((3, None, -1),), ((4, 9, 2), (10, 1))), 3, [(0, 0, 0, 0, None), (1, 0, 0, 1, 0)]),
            [(((None, 3, 4), (None, None, 10)),), (((None, 0, 9), (4, 3, 1)),), (((1, -1, 2), (4, 0, None)),)])
        self.assertEqual(
            faulty(("sorting", 1, 2), (((2, 5, 1),), ((), ())), 3, [(1, 0, 0, 0, None), (1, 0, 0, 1, -4)]),
            [(((2, None, None), (None, None, None)),), (((None, -4, None), (None, None, None)),),
             (((1, None, None), (-4, None, None)),)])

    def test_the_first_and_the_last_beat(self):
        right = run(self.net, self.feed, 4)
        states = faulty(self.net, self.feed, 4, [(3, 1, 1, 0, -BIG)])
        self.assertEqual(states[:3], right[:3])
        self.assertEqual(states[3], (right[3][0], (right[3][1][0], (-BIG, 4, 8))))
        states = faulty(self.net, self.feed, 4, [(0, 1, 1, 0, 1)])
        self.assertEqual([state[1][1][0] for state in states], [1, 1, 19, 51])
        for kind in KINDS:
            feed = (((1,) * 60,), ((2,) * 60,))
            states = faulty((kind, 1, 1), feed, 60, [(59, 0, 0, 1, 9), (0, 0, 0, 2, 8)])
            right = run((kind, 1, 1), feed, 60)
            self.assertEqual(states[1:59], right[1:59])
            self.assertEqual(states[59], (((right[59][0][0][0], 9, 2),),))
            self.assertEqual(states[0][0][0][2], 8)

    def test_of_several_for_one_part_the_last_one_in_the_list(self):
        faults = [(1, 0, 0, 0, 7), (0, 0, 0, 0, 90), (1, 0, 0, 0, None), (1, 0, 0, 1, 4), (1, 0, 0, 0, 8)]
        net, feed = ("paths", 1, 1), (((1, 1, 9),), ((1, 1, 9),))
        self.assertEqual(faulty(net, feed, 3, faults), [(((90, 1, 1),),), (((8, 4, 1),),), (((8, 9, 9),),)])
        self.assertEqual(faulty(net, feed, 3, faults[::-1]), [(((90, 1, 1),),), (((7, 4, 1),),), (((7, 9, 9),),)])

    def test_without_faults_it_tells_what_run_tells(self):
        for net, feed, beats in runs():
            self.assertEqual(faulty(net, feed, beats, []), run(net, feed, beats))

    def test_a_fault_that_changes_nothing(self):
        chance = random.Random(41)
        for net, feed, beats in runs():
            right = run(net, feed, beats)
            faults = []
            for _ in range(5 if beats else 0):
                when, (row, column), part = chance.randrange(beats), chance.choice(places(net)), chance.randrange(3)
                faults.append((when, row, column, part, right[when][row][column][part]))
            self.assertEqual(faulty(net, feed, beats, faults), right)

    def test_each_run_with_faults(self):
        for net, feed, beats, faults in runs_with_faults():
            handed_in = copy.deepcopy((net, feed, faults))
            states = faulty(net, feed, beats, faults)
            self.assertEqual(states, by_hand(net, feed, beats, faults))
            self.assertIs(type(states), list)
            self.assertTrue(all(is_state_of(net, state) for state in states))
            self.assertEqual((net, feed, faults), handed_in)

    def test_the_lists_may_be_changed(self):
        faults = [(0, 0, 0, 0, 50)]
        states = faulty(self.net, self.feed, 2, faults)
        again = list(states)
        faults.append((1, 0, 0, 0, 2))
        self.assertEqual(states, again)
        states.clear()
        self.assertEqual(faulty(self.net, self.feed, 2, faults[:1]), again)

    def test_a_beat_row_column_or_part_that_there_is_not(self):
        right = (1, 1, 2, 2, 5)
        net, feed = ("sorting", 2, 3), empty_feed(2, 3)
        self.assertEqual(len(faulty(net, feed, 2, [right, (0, 0, 0, 0, None)])), 2)
        for at, end in ((0, 2), (1, 2), (2, 3), (3, 3)):
            for thing in (-1, end, end + 1, -2, -end, 10 ** 29, -10 ** 29):
                fault = right[:at] + (thing,) + right[at + 1:]
                for faults in ([fault], [right, fault], [fault, right], [fault, fault]):
                    self.refuses(NoFault, faulty, net, feed, 2, faults)
        self.refuses(NoFault, faulty, net, feed, 0, [(0, 0, 0, 0, None)])
        self.refuses(NoFault, faulty, net, feed, 60, [(60, 0, 0, 0, None)])
        self.assertEqual(faulty(net, feed, 0, []), [])

    def test_which_goes_first(self):
        bad = [(9, 9, 9, 9, 9)]
        for net in NO_NETS:
            for beats in (3, -1):
                self.refuses(NoNet, faulty, net, empty_feed(2, 2), beats, bad)
                self.refuses(NoNet, faulty, net, empty_feed(9, 9), beats, [])
        for feed in feeds_refused(2, 3):
            for beats in (0, 3, -1, 61):
                self.refuses(NoFeed, faulty, ("paths", 2, 3), feed, beats, bad)
                self.refuses(NoFeed, faulty, ("paths", 2, 3), feed, beats, [])
        for beats in COUNTS_REFUSED:
            self.refuses(NoCount, faulty, ("paths", 2, 3), empty_feed(2, 3), beats, bad)
            self.refuses(NoCount, faulty, ("paths", 2, 3), empty_feed(2, 3), beats, [])


class Judged(Asking):
    def test_the_states_of_a_run_are_right_by_both(self):
        for net, feed, beats in runs():
            states = run(net, feed, beats)
            self.assertIsNone(judged(net, feed, states))
            self.assertIsNone(off_sum(net, feed, states))

    def test_shorter_lists_and_empty_ones(self):
        for net, feed, beats in runs():
            states = run(net, feed, beats)
            for many in (0, 1, beats // 2, max(0, beats - 1)):
                self.assertIsNone(judged(net, feed, states[:many]))
                self.assertIsNone(off_sum(net, feed, states[:many]))

    def test_each_part_of_each_cell(self):
        for kind in KINDS:
            net = (kind, 2, 3)
            feed = some_feed(random.Random(42), 2, 3, 9)
            right = run(net, feed, 5)
            for when in range(5):
                for row, column in places(net):
                    for part in range(3):
                        thing = right[when][row][column][part]
                        other = 12345 if thing is None else thing + 1
                        states = faulty(net, feed, 5, [(when, row, column, part, other)])
                        self.assertEqual(judged(net, feed, states), (when, row, column))
                        self.assertIsNone(judged(net, feed, states[:when]))
                        if part == 0:
                            self.assertEqual(off_sum(net, feed, states), (when, row, column))

    def test_none_for_a_number_and_0_for_none(self):
        net, feed = ("paths", 1, 2), (((0, 1),), ((0, 1), (1,)))
        right = run(net, feed, 2)
        self.assertEqual(right[0], (((0, 0, 0), (None, None, 1)),))
        self.assertEqual(judged(net, feed, [(((None, 0, 0), (None, None, 1)),)]), (0, 0, 0))
        self.assertEqual(off_sum(net, feed, [(((None, 0, 0), (None, None, 1)),)]), (0, 0, 0))
        self.assertEqual(judged(net, feed, [(((0, 0, 0), (0, None, 1)),)]), (0, 0, 1))
        self.assertEqual(off_sum(net, feed, [(((0, 0, 0), (0, None, 1)),)]), (0, 0, 1))
        self.assertEqual(judged(net, feed, [(((0, 0, 0), (None, 0, 1)),)]), (0, 0, 1))
        self.assertIsNone(off_sum(net, feed, [(((0, 0, 0), (None, 0, 1)),)]))

    def test_beats_first_then_rows_then_columns(self):
        net, feed = ("product", 3, 3), empty_feed(3, 3)
        for faults, first in (
            ([(4, 0, 0, 0, 1), (2, 2, 2, 0, 1)], (2, 2, 2)),
            ([(2, 2, 0, 0, 1), (2, 1, 2, 0, 1)], (2, 1, 2)),
            ([(2, 1, 2, 0, 1), (2, 1, 1, 0, 1)], (2, 1, 1)),
            ([(2, 1, 1, 0, 1), (2, 2, 0, 0, 1), (3, 0, 0, 0, 1)], (2, 1, 1)),
        ):
            states = faulty(net, feed, 5, faults)
            self.assertEqual(judged(net, feed, states), first)
            self.assertEqual(off_sum(net, feed, states), first)

    def test_a_fault_in_what_is_passed_is_off_the_sum_later(self):
        net, feed = ("product", 2, 2), (((1, 2), (None, 3, 4)), ((5, 7), (None, 6, 8)))
        states = faulty(net, feed, 4, [(1, 0, 0, 1, 9)])
        self.assertEqual(judged(net, feed, states), (1, 0, 0))
        self.assertEqual(off_sum(net, feed, states), (2, 0, 1))
        self.assertIsNone(off_sum(net, feed, states[:2]))
        states = faulty(net, feed, 4, [(3, 1, 1, 2, 9)])
        self.assertEqual(judged(net, feed, states), (3, 1, 1))
        self.assertIsNone(off_sum(net, feed, states))

    def test_a_later_state_that_goes_on_rightly_is_off_the_sum_still(self):
        net, feed = ("product", 1, 1), (((1, 2, 3),), ((4, 5, 6),))
        states = [(((4, 1, 4),),), (((0, 2, 5),),), (((18, 3, 6),),)]
        self.assertEqual(judged(net, feed, states), (1, 0, 0))
        self.assertEqual(off_sum(net, feed, states), (1, 0, 0))
        self.assertEqual(off_sum(net, feed, [states[0], (((14, 2, 5),),), states[2]]), (2, 0, 0))

    def test_each_run_with_faults(self):
        found = 0
        for net, feed, beats, faults in runs_with_faults():
            states = faulty(net, feed, beats, faults)
            handed_in = copy.deepcopy((net, feed, states))
            wrong, off = judged(net, feed, states), off_sum(net, feed, states)
            self.assertEqual(wrong, first_not_made(net, feed, states))
            self.assertEqual(off, first_off(net, feed, states))
            self.assertEqual((net, feed, states), handed_in)
            right = run(net, feed, beats)
            unlike = [when for when in range(beats) if states[when] != right[when]]
            if wrong is None:
                self.assertIsNone(off)
                self.assertEqual(unlike, [])
            else:
                found += 1
                self.assertIs(type(wrong), tuple)
                self.assertEqual(wrong[0], unlike[0])
            if off is not None:
                self.assertIs(type(off), tuple)
                self.assertLessEqual(wrong[0], off[0])
        self.assertGreater(found, 100)

    def test_sixty_states_and_somewhat_more(self):
        for kind in KINDS:
            net = (kind, 2, 2)
            feed = (((1, -2) * 40, (3,) * 70), ((5,) * 75, (None, 2) * 30))
            states = run(net, feed, 60)
            for when in range(60, 65):
                states.append(beat(net, states[-1], *fed(feed, when)))
            self.assertIsNone(judged(net, feed, states[:60]))
            self.assertIsNone(off_sum(net, feed, states[:60]))
            self.assertIsNone(judged(net, feed, states))
            self.assertIsNone(off_sum(net, feed, states))
            last = states[-1][1]
            states[-1] = (states[-1][0], (last[0], (-BIG, *last[1][1:])))
            self.assertEqual(judged(net, feed, states), (64, 1, 1))
            self.assertEqual(off_sum(net, feed, states), (64, 1, 1))

    def test_which_goes_first(self):
        for asked in (judged, off_sum):
            for net in NO_NETS:
                self.refuses(NoNet, asked, net, empty_feed(2, 2), [])
                self.refuses(NoNet, asked, net, empty_feed(9, 9), [(((0, None, None),),)])
            for feed in feeds_refused(2, 3):
                for kind in KINDS:
                    self.refuses(NoFeed, asked, (kind, 2, 3), feed, [])
                    self.refuses(NoFeed, asked, (kind, 2, 3), feed, [at_first((kind, 2, 3))])


if __name__ == "__main__":
    unittest.main()
