import copy
import random
import unittest

from fordbook.asks import levels
from fordbook.clocks import come, is_clock, standing
from fordbook.errors import FordError, NoNet, NoPlace, NoTurn
from fordbook.orders import no_later
from fordbook.reckon import behind
from fordbook.tables import table
from samples import clock_telling
from slow_nets import (DAY, NO_MOST, NO_PLACES, NO_ROADS, NO_SIZES, ROADS, SIZE, apart_and_own, drawn_nets,
                       great_net, keeper, reckoner)


class TestLevels(unittest.TestCase):

    def right(self, day, size, roads, goal, most):
        keeps = keeper(day, roads, goal)
        soonest = reckoner(day, roads, goal)
        found = levels(day, size, roads, goal, most)
        self.assertEqual(len(found), most + 1)
        for left, told in enumerate(found):
            self.assertEqual(len(told), size)
            for place, clock in enumerate(told):
                def slow(t):
                    s = soonest(place, t, size)
                    while s is not None and not keeps(place, t, left, s):
                        s += 1
                    return s
                self.assertIs(is_clock(day, clock), True)
                self.assertEqual(clock, clock_telling(day, slow), (day, size, roads, goal, left, place))
                for t in (-1, day + 1):
                    self.assertEqual(come(day, clock, t), slow(t))
        apart_and_own(self, found, roads)

    def test_some(self):
        roads = [(0, 1, [(3, 3, 2), (8, 8, 2)])]
        self.assertEqual(levels(DAY, 2, roads, 1, 3), [
            [[(3, 3, 2), (8, 8, 2)], standing(DAY)], [[(3, 3, 7), (8, 8, 21)], standing(DAY)],
            [[(3, 3, 26), (8, 8, 26)], standing(DAY)], [[(3, 3, 31), (8, 8, 45)], standing(DAY)]])

    def test_one_moment_later_within_a_window(self):
        roads = [(0, 1, [(3, 9, 2)])]
        self.assertEqual(levels(DAY, 2, roads, 1, 2), [
            [[(3, 9, 2)], standing(DAY)], [[(3, 8, 3), (9, 9, 20)], standing(DAY)],
            [[(3, 7, 4), (8, 9, 21)], standing(DAY)]])
        self.assertEqual([come(DAY, levels(DAY, 2, roads, 1, 2)[2][0], t) for t in (3, 7, 8, 9, 10)],
                         [7, 11, 29, 30, 31])

    def test_of_two_that_come_alike_the_earlier_is_better(self):
        # The board's clock has the later one alone; who is turned away from the earlier one may still take it.
        roads = [(0, 1, [(2, 2, 5), (5, 5, 2)])]
        found = levels(10, 2, roads, 1, 2)
        self.assertEqual(found[0][0], [(5, 5, 2)])
        self.assertEqual([come(10, found[1][0], t) for t in (0, 2, 3, 5, 6)], [7, 7, 17, 17, 17])
        self.assertEqual(found[1][0], [(2, 2, 5)])
        self.assertEqual(found[2][0], [(5, 5, 12)])
        self.right(10, 2, roads, 1, 3)

    def test_windows_that_come_alike_at_two_roads(self):
        roads = [(0, 1, [(2, 2, 5), (5, 5, 2)]), (0, 2, [(1, 1, 1)]), (2, 1, [(2, 3, 5), (5, 5, 2)]), (2, 0, [(0, 9, 1)])]
        for goal in (0, 1, 2):
            self.right(10, 3, roads, goal, 2)

    def test_a_way_round_that_is_safer(self):
        # The straight road is open once a day; the other one, slower, at each moment.
        roads = [(0, 1, [(5, 5, 1)]), (0, 1, [(0, 23, 9)])]
        found = levels(DAY, 2, roads, 1, 2)
        self.assertEqual([come(DAY, found[0][0], t) for t in (0, 5, 6)], [6, 6, 15])
        self.assertEqual([come(DAY, found[1][0], t) for t in (0, 4, 5, 6)], [9, 13, 15, 16])
        self.right(DAY, 2, roads, 1, 2)

    def test_for_none_it_is_the_table(self):
        for source, day, size, roads, goal in drawn_nets(41, 40):
            self.assertEqual(levels(day, size, roads, goal, 0), [table(day, size, roads, goal)])
            self.assertEqual(levels(day, size, roads, goal, 2)[0], table(day, size, roads, goal))

    def test_drawn_nets(self):
        for source, day, size, roads, goal in drawn_nets(42, 150, days=(1, 2, 3, 4)):
            self.right(day, size, roads, goal, source.choice([1, 2, 3]))

    def test_drawn_nets_of_greater_days(self):
        for source, day, size, roads, goal in drawn_nets(43, 25, days=(7, 9), sizes=(2, 3)):
            self.right(day, size, roads, goal, 2)

    def rises(self, day, found):
        for one, other in zip(found, found[1:]):
            for fewer, more in zip(one, other):
                self.assertIs(is_clock(day, more), True)
                self.assertIs(no_later(day, fewer, more), True)
                self.assertIs(no_later(day, more, behind(day, fewer, [(0, day - 1, day)])), True)

    def test_one_more_is_never_sooner_and_never_more_than_a_day_later(self):
        source = random.Random(44)
        for day, ride in ((10 ** 15, 10 ** 15), (10 ** 15 - 1, 10 ** 13), (1000, 10 ** 15), (1000, 90)) * 3:
            self.rises(day, levels(day, 8, great_net(source, day, ride), 7, 3))
        for source, day, size, roads, goal in drawn_nets(45, 40):
            self.rises(day, levels(day, size, roads, goal, 4))

    def test_one_place_no_roads_and_never(self):
        self.assertEqual(levels(DAY, 1, [], 0, 2), [[standing(DAY)]] * 3)
        self.assertEqual(levels(DAY, 2, [(0, 1, [])], 1, 1), [[[], standing(DAY)]] * 2)
        self.assertEqual(levels(DAY, SIZE, ROADS, 3, 3), [[[], [], [], standing(DAY)]] * 4)
        self.right(1, 2, [(0, 0, [(0, 0, 1)]), (0, 1, [(0, 0, 3), (0, 0, 2)])], 1, 3)

    def test_refusals(self):
        for thing in NO_SIZES:
            with self.assertRaises(NoNet):
                levels(DAY, thing, ROADS, None, None)
        for thing in NO_ROADS:
            with self.assertRaises(NoNet):
                levels(DAY, SIZE, thing, 9, -1)
        for thing in NO_PLACES:
            with self.assertRaises(NoPlace):
                levels(DAY, SIZE, ROADS, thing, -1)
            with self.assertRaises(NoPlace):
                levels(DAY, SIZE, ROADS, thing, 1)
        for thing in NO_MOST:
            for caught in (NoTurn, FordError, ValueError):
                with self.assertRaises(caught, msg=repr(thing)):
                    levels(DAY, SIZE, ROADS, 2, thing)

    def test_nothing_is_changed_or_kept(self):
        roads = copy.deepcopy(ROADS)
        told = levels(DAY, SIZE, roads, 2, 2)
        again = copy.deepcopy(told)
        self.assertEqual(roads, ROADS)
        told[1][0].clear()
        told[0].pop()
        told.append("mine")
        self.assertEqual(levels(DAY, SIZE, roads, 2, 2), again)
        one = levels(DAY, SIZE, roads, 2, 2)
        roads[0][2].clear()
        roads.pop()
        self.assertEqual(one, again)


if __name__ == "__main__":
    unittest.main()
