import copy
import random
import unittest

from fordbook.clocks import come, is_clock, standing
from fordbook.errors import FordError, NoNet, NoPlace
from fordbook.orders import no_later
from fordbook.reckon import behind, clock_of
from fordbook.tables import rounds, table, table_from, undercut
from samples import clock_telling, drawn_clock, told_by
from slow_nets import (DAY, FERRY, NO_PLACES, NO_ROADS, NO_SIZES, ROADS, SIZE, apart_and_own, drawn_nets, great_net,
                       reckoner)


class TestTables(unittest.TestCase):

    def right(self, day, size, roads, goal):
        soonest = reckoner(day, tuple((start, end, tuple(board)) for start, end, board in roads), goal)
        tables = rounds(day, size, roads, goal)
        self.assertEqual(len(tables), size)
        for rides, told in enumerate(tables):
            self.assertEqual(len(told), size)
            for place, clock in enumerate(told):
                self.assertIs(is_clock(day, clock), True, (day, roads, goal))
                slow = clock_telling(day, lambda t: soonest(place, t, rides))
                self.assertEqual(clock, slow, (day, roads, goal, place, rides))
                for t in (-day - 1, -1, day, 2 * day + 1):
                    self.assertEqual(come(day, clock, t), soonest(place, t, rides))
        self.assertEqual(table(day, size, roads, goal), tables[-1])
        for place in range(size):
            # No journey of more rides comes sooner.
            for t in range(day):
                self.assertEqual(come(day, tables[-1][place], t), soonest(place, t, size + 2))
        apart_and_own(self, tables, roads)

    def test_some(self):
        ness = [(5, 5, 1), (11, 20, 4)]
        quay = [(3, 3, 3), (9, 9, 6), (15, 15, 5), (16, 16, 13)]
        self.assertEqual(rounds(DAY, SIZE, ROADS, 2), [
            [[], [], standing(DAY), []],
            [[(0, 23, 13)], ness, standing(DAY), []],
            [quay, ness, standing(DAY), [(1, 1, 14)]],
            [quay, ness, standing(DAY), [(1, 1, 5)]]])
        told = table(DAY, SIZE, ROADS, 2)
        self.assertEqual([come(DAY, told[0], t) for t in (0, 3, 4, 9, 10, 15, 16, 17)], [6, 6, 15, 15, 20, 20, 29, 30])
        self.assertEqual(come(DAY, told[3], 0), 6)

    def test_one_place(self):
        for day in (1, DAY, 10 ** 15):
            self.assertEqual(rounds(day, 1, [], 0), [[standing(day)]])
            self.assertEqual(table(day, 1, [(0, 0, [(0, 0, 1)])], 0), [standing(day)])
            self.assertEqual(table_from(day, 1, [(0, 0, [(0, 0, 1)])], 0), [standing(day)])

    def test_no_roads_and_boards_without_windows(self):
        for roads in ([], [(0, 1, []), (1, 2, [])]):
            self.assertEqual(rounds(DAY, 3, roads, 1), [[[], standing(DAY), []]] * 3)
            self.assertEqual(table(DAY, 3, roads, 2), [[], [], standing(DAY)])
            self.assertEqual(table_from(DAY, 3, roads, 2), [[], [], standing(DAY)])

    def test_to_itself_and_two_alike(self):
        roads = [(0, 0, [(0, 23, 1)]), (0, 1, [(3, 9, 2)]), (0, 1, [(15, 15, 1)]), (1, 1, [(4, 4, 1)])]
        self.assertEqual(table(DAY, 2, roads, 1), [FERRY, standing(DAY)])
        self.assertEqual(table_from(DAY, 2, roads, 0), [standing(DAY), FERRY])

    def test_places_from_which_the_goal_is_never_reached(self):
        self.assertEqual(table(DAY, SIZE, ROADS, 3), [[], [], [], standing(DAY)])
        self.assertEqual(table_from(DAY, SIZE, ROADS, 0)[3], [])

    def test_the_goals_own_clock_is_standing(self):
        for goal in range(SIZE):
            for told in rounds(DAY, SIZE, ROADS, goal):
                self.assertEqual(told[goal], standing(DAY))
            self.assertEqual(table_from(DAY, SIZE, ROADS, goal)[goal], standing(DAY))

    def test_drawn_nets(self):
        for source, day, size, roads, goal in drawn_nets(21, 120):
            self.right(day, size, roads, goal)

    def test_from_a_start_it_is_the_same_seen_from_the_other_end(self):
        for source, day, size, roads, goal in drawn_nets(22, 60):
            told = table_from(day, size, roads, goal)
            self.assertEqual(told, [table(day, size, roads, place)[goal] for place in range(size)])
            apart_and_own(self, told, roads)

    def test_great_nets(self):
        source = random.Random(23)
        for day, ride in ((10 ** 15, 10 ** 15), (10 ** 15 - 1, 10 ** 14), (1000, 10 ** 15), (1000, 90)) * 3:
            roads = great_net(source, day, ride)
            told = table(day, 8, roads, 7)
            self.assertIsNone(undercut(day, 8, roads, 7, told))
            self.assertEqual([clock == [] for clock in told], [False] * 8)
            for clock in told:
                self.assertIs(is_clock(day, clock), True)
            for start in (0, 3):
                self.assertEqual(table_from(day, 8, roads, start)[7], told[start])
            for one, other in zip(rounds(day, 8, roads, 7), rounds(day, 8, roads, 7)[1:]):
                for before, behind_it in zip(one, other):
                    self.assertIs(no_later(day, behind_it, before), True)

    def test_refusals(self):
        told = table(DAY, SIZE, ROADS, 2)
        for asked in (rounds, table, table_from, lambda *given: undercut(*given, told)):
            for thing in NO_SIZES:
                for place in (0, None):
                    with self.assertRaises(NoNet, msg=repr(thing)):
                        asked(DAY, thing, ROADS, place)
            for thing in NO_ROADS:
                for place in (0, 9, "x"):
                    with self.assertRaises(NoNet, msg=repr(thing)):
                        asked(DAY, SIZE, thing, place)
            for thing in NO_PLACES:
                for caught in (NoPlace, FordError, ValueError):
                    with self.assertRaises(caught, msg=repr(thing)):
                        asked(DAY, SIZE, ROADS, thing)

    def test_nothing_is_changed_or_kept(self):
        roads = copy.deepcopy(ROADS)
        for asked in (rounds, table, table_from):
            told = asked(DAY, SIZE, roads, 2)
            again = copy.deepcopy(told)
            self.assertEqual(roads, ROADS)
            told[0].clear()
            told[2].append("mine")
            told.append("mine")
            self.assertEqual(roads, ROADS)
            self.assertEqual(asked(DAY, SIZE, roads, 2), again)
        one = table(DAY, SIZE, roads, 2)
        again = copy.deepcopy(one)
        roads[0][2].clear()
        roads.pop()
        self.assertEqual(one, again)


class TestUndercut(unittest.TestCase):

    def slow(self, day, size, roads, goal, told):
        for t in range(day):
            if told_by(day, told[goal], t) != t:
                return (-1, t)
        for number, (start, end, board) in enumerate(roads):
            for t in range(day):
                here = told_by(day, told[start], t)
                taken = told_by(day, board, t)
                other = None if taken is None else told_by(day, told[end], taken)
                if other is not None and (here is None or here > other):
                    return (number, t)
        return None

    def test_a_table_is_not_undercut(self):
        for goal in range(SIZE):
            self.assertIsNone(undercut(DAY, SIZE, ROADS, goal, table(DAY, SIZE, ROADS, goal)))
        for source, day, size, roads, goal in drawn_nets(24, 60):
            self.assertIsNone(undercut(day, size, roads, goal, table(day, size, roads, goal)))

    def test_the_goal(self):
        told = table(DAY, SIZE, ROADS, 2)
        for clock, t in (([], 0), ([(0, 22, 0)], 23), ([(1, 23, 0)], 0), ([(0, 4, 0), (6, 23, 0)], 5), ([(0, 23, 1)], 0)):
            self.assertEqual(undercut(DAY, SIZE, ROADS, 2, told[:2] + [clock] + told[3:]), (-1, t))

    def test_the_least_road_and_the_first_moment(self):
        told = table(DAY, SIZE, ROADS, 2)
        never = [[], [], standing(DAY), []]
        self.assertEqual(undercut(DAY, SIZE, ROADS, 2, never), (1, 0))
        self.assertEqual(undercut(DAY, SIZE, ROADS, 2, [told[0], [(5, 5, 1), (11, 19, 4)]] + told[2:]), (1, 20))
        self.assertEqual(undercut(DAY, SIZE, ROADS, 2, [[], told[1], told[2], []]), (0, 0))
        self.assertEqual(undercut(DAY, SIZE, ROADS, 2, [[(0, 23, 13)]] + told[1:]), (0, 0))
        self.assertEqual(undercut(DAY, SIZE, ROADS, 2, told[:3] + [[]]), (4, 0))
        self.assertEqual(undercut(DAY, SIZE, ROADS, 2, [behind(DAY, clock_of(DAY, FERRY), told[1])] + told[1:]), (2, 16))

    def test_one_that_tells_too_soon_is_not_undercut(self):
        self.assertIsNone(undercut(DAY, SIZE, ROADS, 2, [standing(DAY)] * 4))
        self.assertIsNone(undercut(DAY, SIZE, [], 2, [[], [], standing(DAY), []]))

    def test_drawn_tables(self):
        found = set()
        for source, day, size, roads, goal in drawn_nets(25, 200):
            told = table(day, size, roads, goal)
            for place in range(size):
                if source.random() < 0.3:
                    told[place] = drawn_clock(source, day, 3, 2 * day)
            before = copy.deepcopy((roads, told))
            slow = self.slow(day, size, roads, goal, told)
            self.assertEqual(undercut(day, size, roads, goal, told), slow, (day, size, roads, goal, told))
            self.assertEqual((roads, told), before)
            found.add(None if slow is None else slow[0])
        self.assertGreater(len(found), 5)


if __name__ == "__main__":
    unittest.main()
