import copy
import random
import unittest

from fordbook.clocks import come, leave
from fordbook.errors import FordError, NoNet, NoPlace
from fordbook.journeys import fewest_rides, journey, last_journey
from fordbook.tables import rounds, table
from samples import FAR
from slow_nets import (DAY, NO_PLACES, NO_ROADS, NO_SIZES, ROADS, SIZE, apart_and_own, drawn_nets, great_net, reckoner,
                       ridden)


class TestJourney(unittest.TestCase):

    def right(self, day, size, roads, goal, place, t, soonest):
        row = journey(day, size, roads, goal, place, t)
        if soonest is None:
            self.assertIsNone(row)
            return
        self.assertIs(type(row), list)
        self.assertTrue(all(type(ride) is tuple and len(ride) == 4 for ride in row))
        self.assertLessEqual(len(row), size - 1)
        self.assertEqual(ridden(self, day, roads, place, t, row), (goal, soonest))

    def test_some(self):
        self.assertEqual(journey(DAY, SIZE, ROADS, 2, 0, 0), [(0, 0, 3, 5), (1, 0, 5, 6)])
        self.assertEqual(journey(DAY, SIZE, ROADS, 2, 0, 16), [(2, 0, 16, 29)])
        self.assertEqual(journey(DAY, SIZE, ROADS, 2, 1, 6), [(1, 1, 11, 15)])
        self.assertEqual(journey(DAY, SIZE, ROADS, 2, 3, -30), [(4, 0, -23, -22), (0, 0, -21, -19), (1, 0, -19, -18)])

    def test_at_the_goal(self):
        for t in (-FAR, -1, 0, 5, FAR):
            self.assertEqual(journey(DAY, SIZE, ROADS, 2, 2, t), [])
            self.assertEqual(journey(1, 1, [(0, 0, [(0, 0, 1)])], 0, 0, t), [])

    def test_none(self):
        for place in range(3):
            for t in (-FAR, 0, FAR):
                self.assertIsNone(journey(DAY, SIZE, ROADS, 3, place, t))
                self.assertIsNone(last_journey(DAY, SIZE, ROADS, 3, place, t))
        self.assertIsNone(journey(DAY, 2, [], 0, 1, 5))
        self.assertIsNone(journey(DAY, 2, [(1, 0, [])], 0, 1, 5))

    def test_drawn_nets(self):
        for source, day, size, roads, goal in drawn_nets(31, 120):
            soonest = reckoner(day, roads, goal)
            for place in range(size):
                for t in range(-day, day + 1):
                    self.right(day, size, roads, goal, place, t, soonest(place, t, size + 1))

    def test_great_nets(self):
        source = random.Random(32)
        for day, ride in ((10 ** 15, 10 ** 15), (1000, 10 ** 15), (1000, 90)) * 2:
            roads = great_net(source, day, ride)
            told = table(day, 8, roads, 7)
            for place in range(8):
                for t in (-FAR, 0, day // 3, FAR):
                    self.right(day, 8, roads, 7, place, t, come(day, told[place], t))

    def test_refusals(self):
        asked = (lambda size, roads, goal, place: journey(DAY, size, roads, goal, place, 0),
                 lambda size, roads, goal, place: last_journey(DAY, size, roads, goal, place, 0),
                 lambda size, roads, goal, place: fewest_rides(DAY, size, roads, goal, place, 0, 0))
        for ask in asked:
            for thing in NO_SIZES:
                with self.assertRaises(NoNet):
                    ask(thing, ROADS, None, None)
            for thing in NO_ROADS:
                with self.assertRaises(NoNet):
                    ask(SIZE, thing, 0, 9)
            for thing in NO_PLACES:
                for caught in (NoPlace, FordError, ValueError):
                    with self.assertRaises(caught):
                        ask(SIZE, ROADS, thing, 0)
                    with self.assertRaises(caught):
                        ask(SIZE, ROADS, 0, thing)

    def test_nothing_is_changed_or_kept(self):
        roads = copy.deepcopy(ROADS)
        for asked in (journey, last_journey):
            told = asked(DAY, SIZE, roads, 2, 0, 40)
            again = list(told)
            self.assertEqual(roads, ROADS)
            apart_and_own(self, told, roads)
            told.clear()
            self.assertEqual(asked(DAY, SIZE, roads, 2, 0, 40), again)
            asked(DAY, SIZE, roads, 2, 2, 40).append("mine")
            self.assertEqual(asked(DAY, SIZE, roads, 2, 2, 40), [])
        fewest_rides(DAY, SIZE, roads, 2, 0, 0, 40)
        self.assertEqual(roads, ROADS)


class TestLastJourney(unittest.TestCase):

    def right(self, day, size, roads, goal, place, s, latest):
        row = last_journey(day, size, roads, goal, place, s)
        if place == goal:
            self.assertEqual(row, [])
        elif latest is None:
            self.assertIsNone(row)
        else:
            self.assertIs(type(row), list)
            self.assertTrue(1 <= len(row) <= size - 1)
            self.assertEqual(row[0][2], latest)
            end = ridden(self, day, roads, place, row[0][2], row)
            self.assertEqual(end[0], goal)
            self.assertLessEqual(end[1], s)

    def test_some(self):
        self.assertEqual(last_journey(DAY, SIZE, ROADS, 2, 0, 15), [(0, 0, 9, 11), (1, 1, 11, 15)])
        self.assertEqual(last_journey(DAY, SIZE, ROADS, 2, 0, 14), [(0, 0, 3, 5), (1, 0, 5, 6)])
        self.assertEqual(last_journey(DAY, SIZE, ROADS, 2, 0, 29), [(2, 0, 16, 29)])
        self.assertEqual(last_journey(DAY, SIZE, ROADS, 2, 1, 5), [(1, 1, -4, 0)])

    def test_at_the_goal_whatever_s_is(self):
        for s in (-FAR, -1, 0, 1, FAR):
            self.assertEqual(last_journey(DAY, SIZE, ROADS, 2, 2, s), [])

    def test_drawn_nets(self):
        for source, day, size, roads, goal in drawn_nets(33, 80, days=(1, 2, 3, 5)):
            soonest = reckoner(day, roads, goal)
            for place in range(size):
                for s in range(-day, day + 1):
                    latest = None
                    if soonest(place, 0, size) is not None:
                        latest = s
                        while soonest(place, latest, size + 1) > s:
                            latest -= 1
                    self.right(day, size, roads, goal, place, s, latest)

    def test_great_nets(self):
        source = random.Random(34)
        for day, ride in ((10 ** 15, 10 ** 15), (1000, 10 ** 15), (1000, 90)) * 2:
            roads = great_net(source, day, ride)
            told = table(day, 8, roads, 7)
            for place in range(8):
                for s in (-FAR, 0, day // 3, FAR):
                    self.right(day, 8, roads, 7, place, s, leave(day, told[place], s))


class TestFewestRides(unittest.TestCase):

    def test_some(self):
        for t, s, rides in ((0, 6, 2), (0, 5, None), (0, 12, 2), (0, 13, 1), (0, 14, 1), (16, 29, 1), (16, 28, None)):
            self.assertEqual(fewest_rides(DAY, SIZE, ROADS, 2, 0, t, s), rides, (t, s))
        self.assertEqual(fewest_rides(DAY, SIZE, ROADS, 2, 3, 0, 6), 3)
        self.assertEqual(fewest_rides(DAY, SIZE, ROADS, 2, 3, 0, 15), 2)

    def test_at_the_goal(self):
        for t in (-FAR, -1, 0, 7, FAR):
            self.assertEqual(fewest_rides(DAY, SIZE, ROADS, 2, 2, t, t), 0)
            self.assertEqual(fewest_rides(DAY, SIZE, ROADS, 2, 2, t, t + 9), 0)
            self.assertIsNone(fewest_rides(DAY, SIZE, ROADS, 2, 2, t, t - 1))

    def test_where_one_cannot(self):
        self.assertIsNone(fewest_rides(DAY, SIZE, ROADS, 3, 0, 0, FAR))
        self.assertIsNone(fewest_rides(DAY, SIZE, ROADS, 2, 0, 5, 4))
        self.assertIsNone(fewest_rides(DAY, SIZE, ROADS, 2, 0, FAR, -FAR))
        self.assertEqual(fewest_rides(DAY, SIZE, ROADS, 2, 0, -FAR, FAR), 1)

    def test_drawn_nets(self):
        found = set()
        for source, day, size, roads, goal in drawn_nets(35, 120):
            soonest = reckoner(day, roads, goal)
            for place in range(size):
                for t in range(-1, day):
                    for s in range(t - 1, t + 3 * day + 3):
                        slow = None
                        for rides in range(size + 2, -1, -1):
                            moment = soonest(place, t, rides)
                            if moment is not None and moment <= s:
                                slow = rides
                        self.assertEqual(fewest_rides(day, size, roads, goal, place, t, s), slow)
                        found.add(slow)
                    if day > 3 or size > 3:
                        break
        self.assertTrue({None, 0, 1, 2, 3} <= found)

    def test_fewer_do_not_reach_it(self):
        source = random.Random(36)
        for day, ride in ((10 ** 15, 10 ** 15), (1000, 90)) * 2:
            roads = great_net(source, day, ride)
            tables = rounds(day, 8, roads, 7)
            for place in range(7):
                for t in (-FAR, 0, day // 2):
                    s = come(day, tables[-1][place], t)
                    rides = fewest_rides(day, 8, roads, 7, place, t, s)
                    self.assertEqual(come(day, tables[rides][place], t), s)
                    fewer = come(day, tables[rides - 1][place], t)
                    self.assertTrue(fewer is None or fewer > s)


if __name__ == "__main__":
    unittest.main()
