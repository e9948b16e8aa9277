import copy
import random
import unittest

from fordbook.errors import FordError, NoNet, NoPlace
from fordbook.orders import first_later
from fordbook.spare import needs, thinned
from fordbook.tables import table
from samples import clock_telling, told_by
from slow_nets import (DAY, NO_PLACES, NO_ROADS, NO_SIZES, ROADS, SIZE, apart_and_own, drawn_nets, great_net, reckoner)


def dropped(roads, number, window):
    found = copy.deepcopy(roads)
    found[number][2].pop(window)
    return found


def slow_table(day, size, roads, goal):
    soonest = reckoner(day, roads, goal)
    return [clock_telling(day, lambda t: soonest(place, t, size)) for place in range(size)]


def slow_thinned(day, size, roads, goal):
    """Window by window: first those that are kept, then this one, then those that are not yet gone through."""
    whole = slow_table(day, size, roads, goal)
    found = copy.deepcopy(roads)
    for number in range(len(roads)):
        kept = 0
        for window in roads[number][2]:
            fewer = dropped(found, number, kept)
            if slow_table(day, size, fewer, goal) == whole:
                found = fewer
            else:
                kept += 1
    return found


class TestSpare(unittest.TestCase):

    def right(self, day, size, roads, goal):
        left = thinned(day, size, roads, goal)
        self.assertEqual(left, slow_thinned(day, size, roads, goal), (day, size, roads, goal))
        apart_and_own(self, left, roads)
        whole = slow_table(day, size, left, goal)
        found = []
        for number, road in enumerate(left):
            for window in range(len(road[2])):
                fewer = slow_table(day, size, dropped(left, number, window), goal)
                later = []
                for place in range(size):
                    for t in range(day):
                        here = told_by(day, fewer[place], t)
                        before = told_by(day, whole[place], t)
                        if before is not None and (here is None or here > before):
                            later.append((place, t))
                found.append((number, window) + min(later))
        self.assertEqual(needs(day, size, roads, goal), found, (day, size, roads, goal))

    def test_some(self):
        roads = [(0, 1, [(3, 9, 5), (5, 7, 2), (3, 4, 6), (8, 9, 5)])]
        self.assertEqual(thinned(DAY, 2, roads, 1), [(0, 1, [(5, 7, 2), (8, 9, 5)])])
        self.assertEqual(needs(DAY, 2, roads, 1), [(0, 0, 0, 0), (0, 1, 0, 8)])

    def test_two_alike_of_which_the_later_one_stays(self):
        roads = [(0, 1, [(3, 9, 2), (3, 9, 2)]), (0, 1, [(3, 9, 2)])]
        self.assertEqual(thinned(DAY, 2, roads, 1), [(0, 1, []), (0, 1, [(3, 9, 2)])])
        self.assertEqual(needs(DAY, 2, roads, 1), [(1, 0, 0, 0)])

    def test_dropped_for_good(self):
        # Each alone could be spared, but not all of them.
        roads = [(0, 1, [(0, 4, 2), (3, 9, 2), (0, 9, 2)])]
        self.assertEqual(thinned(10, 2, roads, 1), [(0, 1, [(0, 9, 2)])])
        roads = [(0, 1, [(0, 9, 2), (0, 4, 2), (3, 9, 2)])]
        self.assertEqual(thinned(10, 2, roads, 1), [(0, 1, [(0, 4, 2), (3, 9, 2)])])
        self.assertEqual(needs(10, 2, roads, 1), [(0, 0, 0, 0), (0, 1, 0, 5)])

    def test_roads_stay_without_windows(self):
        roads = [(1, 0, [(3, 9, 2)]), (1, 1, [(0, 0, 1)]), (0, 1, [(3, 9, 2)]), (0, 1, [])]
        self.assertEqual(thinned(DAY, 2, roads, 1), [(1, 0, []), (1, 1, []), (0, 1, [(3, 9, 2)]), (0, 1, [])])
        self.assertEqual(needs(DAY, 2, roads, 1), [(2, 0, 0, 0)])
        self.assertEqual(thinned(DAY, 2, [], 1), [])
        self.assertEqual(needs(DAY, 2, [], 1), [])
        self.assertEqual(needs(DAY, 1, [(0, 0, [(0, 0, 1)])], 0), [])

    def test_what_is_told_of_the_whole_net(self):
        self.assertEqual(thinned(DAY, SIZE, ROADS, 2), [
            (0, 1, [(3, 9, 2), (15, 15, 1)]), (1, 2, [(5, 5, 1), (11, 20, 4)]), (0, 2, [(0, 23, 13)]), (2, 0, []),
            (3, 0, [(1, 1, 1)])])
        self.assertEqual(needs(DAY, SIZE, ROADS, 2), [
            (0, 0, 0, 0), (0, 1, 0, 10), (1, 0, 0, 0), (1, 1, 0, 4), (2, 0, 0, 16), (4, 0, 3, 0)])
        for goal in range(SIZE):
            self.right(DAY, SIZE, ROADS, goal)

    def test_drawn_nets(self):
        for source, day, size, roads, goal in drawn_nets(63, 120, days=(1, 2, 3, 5)):
            self.right(day, size, roads, goal)

    def test_great_nets(self):
        source = random.Random(64)
        for day, ride in ((10 ** 15, 10 ** 15), (1000, 10 ** 15), (1000, 90)):
            roads = great_net(source, day, ride)
            left = thinned(day, 8, roads, 7)
            whole = table(day, 8, roads, 7)
            self.assertEqual(table(day, 8, left, 7), whole)
            self.assertEqual([road[:2] for road in left], [road[:2] for road in roads])
            told = needs(day, 8, roads, 7)
            numbers = [(number, window) for number, road in enumerate(left) for window in range(len(road[2]))]
            self.assertEqual([need[:2] for need in told], numbers)
            for number, window, place, t in told:
                fewer = table(day, 8, dropped(left, number, window), 7)
                self.assertEqual(first_later(day, fewer[place], whole[place]), t)
                self.assertEqual(fewer[:place], whole[:place])

    def test_refusals(self):
        for asked in (thinned, needs):
            for thing in NO_SIZES:
                with self.assertRaises(NoNet):
                    asked(DAY, thing, ROADS, None)
            for thing in NO_ROADS:
                with self.assertRaises(NoNet):
                    asked(DAY, SIZE, thing, 9)
            for thing in NO_PLACES:
                for caught in (NoPlace, FordError, ValueError):
                    with self.assertRaises(caught):
                        asked(DAY, SIZE, ROADS, thing)

    def test_nothing_is_changed_or_kept(self):
        roads = copy.deepcopy(ROADS)
        for asked in (thinned, needs):
            told = asked(DAY, SIZE, roads, 2)
            again = copy.deepcopy(told)
            self.assertEqual(roads, ROADS)
            apart_and_own(self, told, roads)
            if asked is thinned:
                told[0][2].append("mine")
            told.pop()
            self.assertEqual(roads, ROADS)
            self.assertEqual(asked(DAY, SIZE, roads, 2), again)
        told = thinned(DAY, SIZE, roads, 2)
        roads[0][2].clear()
        self.assertEqual(told[0][2], [(3, 9, 2), (15, 15, 1)])


if __name__ == "__main__":
    unittest.main()
