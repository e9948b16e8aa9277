import copy
import functools
import random
import unittest

from fordbook.asks import levels
from fordbook.clocks import come
from fordbook.errors import FordError, NoNet, NoPlace, NoRoad, NoTurn
from fordbook.gates import Gate
from samples import FAR
from slow_nets import (DAY, NO_MOST, NO_PLACES, NO_ROADS, NO_SIZES, ROADS, SIZE, apart_and_own, drawn_nets,
                       great_net, ridden)

NO_NUMBERS = [-1, 10 ** 30, True, False, None, "", "0", (), (0,), [], [0], [[[[]]]]]


class TestSoonest(unittest.TestCase):

    def test_what_the_levels_tell(self):
        for source, day, size, roads, goal in drawn_nets(51, 60):
            most = source.randint(0, 3)
            gate = Gate(day, size, roads, goal, most)
            for left, told in enumerate(levels(day, size, roads, goal, most)):
                for place in range(size):
                    for t in range(-day, day + 1):
                        self.assertEqual(gate.soonest(place, t, left), come(day, told[place], t))

    def test_some(self):
        gate = Gate(10, 2, [(0, 1, [(2, 2, 5), (5, 5, 2)])], 1, 2)
        self.assertEqual([gate.soonest(0, 0, left) for left in range(3)], [7, 7, 17])
        self.assertEqual([gate.soonest(0, 3, left) for left in range(3)], [7, 17, 17])
        self.assertEqual([gate.soonest(1, -3, left) for left in range(3)], [-3, -3, -3])
        self.assertIsNone(Gate(10, 2, [(0, 1, [(2, 2, 5)])], 0).soonest(1, 5, 0))

    def test_one_turning_away_where_none_is_told(self):
        gate = Gate(DAY, SIZE, ROADS, 2)
        self.assertEqual([gate.soonest(0, 0, left) for left in (0, 1)],
                         [come(DAY, told[0], 0) for told in levels(DAY, SIZE, ROADS, 2, 1)])
        with self.assertRaises(NoTurn):
            gate.soonest(0, 0, 2)
        self.assertEqual(Gate(DAY, SIZE, ROADS, 2, most=2).soonest(2, 5, 2), 5)


class TestPlan(unittest.TestCase):

    def follow(self, gate, day, size, roads, goal, place, t, left, s):
        """Whatever the gatekeeper does: they come to the goal by s."""
        row = gate.plan(place, t, left)
        self.assertIs(type(row), list)
        self.assertLessEqual(len(row), size - 1)
        self.assertEqual(ridden(self, day, roads, place, t, row)[0], goal)
        for road, window, x, z in row:
            if left > 0:
                self.follow(gate, day, size, roads, goal, place, x + 1, left - 1, s)
            place = roads[road][1]
            t = z
        self.assertLessEqual(t, s)

    def right(self, day, size, roads, goal, most, moments):
        gate = Gate(day, size, roads, goal, most)
        for place in range(size):
            for left in range(most + 1):
                for t in moments:
                    s = gate.soonest(place, t, left)
                    if s is None:
                        self.assertIsNone(gate.plan(place, t, left))
                    else:
                        self.follow(gate, day, size, roads, goal, place, t, left, s)

    def test_some(self):
        gate = Gate(10, 2, [(0, 1, [(2, 2, 5), (5, 5, 2)])], 1, 2)
        self.assertEqual(gate.plan(0, 0, 1), [(0, 0, 2, 7)])
        self.assertEqual(gate.plan(0, 3, 0), [(0, 1, 5, 7)])
        self.assertEqual(gate.plan(0, 3, 1), [(0, 0, 12, 17)])

    def test_at_the_goal_and_never(self):
        gate = Gate(DAY, SIZE, ROADS, 2, 2)
        for t in (-FAR, 0, FAR):
            for left in range(3):
                self.assertEqual(gate.plan(2, t, left), [])
                self.assertIsNone(Gate(DAY, SIZE, ROADS, 3, 2).plan(0, t, left))

    def test_small_nets_against_every_gatekeeper(self):
        self.right(DAY, SIZE, ROADS, 2, 3, (0, 5, 10, 16))
        for source, day, size, roads, goal in drawn_nets(52, 150):
            self.right(day, size, roads, goal, source.randint(1, 3), range(-1, day))

    def test_great_nets_against_every_gatekeeper(self):
        source = random.Random(53)
        for day, ride in ((10 ** 15, 10 ** 15), (1000, 10 ** 15), (1000, 90)):
            self.right(day, 8, great_net(source, day, ride), 7, 2, (-FAR, 0, day // 3))


class TestLets(unittest.TestCase):

    def test_some(self):
        gate = Gate(10, 2, [(0, 1, [(2, 2, 5), (5, 5, 2)]), (1, 0, [(0, 9, 1)])], 1, 2)
        self.assertIs(gate.lets(0, 0, 2, 0), True)
        self.assertIs(gate.lets(0, 1, 5, 0), True)
        self.assertIs(gate.lets(0, 0, 2, 1), True)
        self.assertIs(gate.lets(0, 1, 5, 1), False)
        self.assertIs(gate.lets(0, 0, 2, 2), False)
        self.assertIs(gate.lets(0, 1, -5, 1), False)
        self.assertIs(gate.lets(0, 0, 10 ** 40 + 2, 1), True)

    def test_never_on_either_side(self):
        roads = [(0, 1, [(3, 9, 2)]), (2, 1, [(0, 23, 1)]), (1, 2, [(3, 9, 2)]), (0, 3, [(4, 4, 1)])]
        gate = Gate(DAY, 4, roads, 3, 1)
        # The other place is never, this one isn't; then both are never; then neither is.
        self.assertIs(gate.lets(0, 0, 3, 1), True)
        self.assertIs(gate.lets(1, 0, 3, 1), True)
        self.assertIs(gate.lets(3, 0, 4, 1), False)
        self.assertIs(gate.lets(3, 0, 4, 0), True)

    def test_as_told(self):
        for source, day, size, roads, goal in drawn_nets(54, 80):
            gate = Gate(day, size, roads, goal, 2)
            tables = levels(day, size, roads, goal, 2)
            for number, (start, end, board) in enumerate(roads):
                for window, (a, b, c) in enumerate(board):
                    for x in [x for x in range(-day, day) if a <= x % day <= b]:
                        self.assertIs(gate.lets(number, window, x, 0), True)
                        for left in (1, 2):
                            there = come(day, tables[left][end], x + c)
                            here = come(day, tables[left - 1][start], x + 1)
                            told = there is None or here is not None and there >= here
                            self.assertIs(gate.lets(number, window, x, left), told)

    def test_whoever_is_answered_so_comes_never_sooner(self):
        for source, day, size, roads, goal in drawn_nets(55, 120, days=(1, 2, 3, 5)):
            gate = Gate(day, size, roads, goal, 3)

            @functools.lru_cache(maxsize=None)
            def reaches(place, t, left, s):
                """Whether some traveller comes to the goal ahead of s."""
                if t >= s or place == goal:
                    return t < s
                for number, (start, end, board) in enumerate(roads):
                    for window, (a, b, c) in enumerate(board if start == place else []):
                        for x in [x for x in range(t, s) if a <= x % day <= b]:
                            if gate.lets(number, window, x, left):
                                found = reaches(end, x + c, left, s)
                            else:
                                found = reaches(place, x + 1, left - 1, s)
                            if found:
                                return True
                return False

            for place in range(size):
                for left in range(4):
                    for t in range(day):
                        s = gate.soonest(place, t, left)
                        self.assertFalse(reaches(place, t, left, t + 4 * day if s is None else s))


class TestRefusals(unittest.TestCase):

    def test_made(self):
        for thing in NO_SIZES:
            with self.assertRaises(NoNet):
                Gate(DAY, thing, ROADS, None, None)
        for thing in NO_ROADS:
            with self.assertRaises(NoNet):
                Gate(DAY, SIZE, thing, 9, -1)
        for thing in NO_PLACES:
            with self.assertRaises(NoPlace):
                Gate(DAY, SIZE, ROADS, thing, -1)
            with self.assertRaises(NoPlace):
                Gate(DAY, SIZE, ROADS, thing)
        for thing in NO_MOST:
            for caught in (NoTurn, FordError, ValueError):
                with self.assertRaises(caught):
                    Gate(DAY, SIZE, ROADS, 2, thing)

    def test_places_then_turns(self):
        gate = Gate(DAY, SIZE, ROADS, 2, 2)
        for asked in (gate.soonest, gate.plan):
            for thing in NO_PLACES:
                for left in (0, 3, None):
                    with self.assertRaises(NoPlace):
                        asked(thing, 0, left)
            for thing in NO_NUMBERS + [3]:
                for caught in (NoTurn, FordError, ValueError):
                    with self.assertRaises(caught):
                        asked(0, 0, thing)

    def test_roads_then_turns(self):
        gate = Gate(DAY, SIZE, ROADS + [(0, 1, [])], 2, 2)
        for left in (0, 3, -1, None, True):
            for thing in NO_NUMBERS + [6]:
                with self.assertRaises(NoRoad):
                    gate.lets(thing, 0, 3, left)
            for thing in NO_NUMBERS + [2]:
                with self.assertRaises(NoRoad):
                    gate.lets(0, thing, 3, left)
            for x in (2, 10, 15, -1, FAR - FAR % 24 + 10):
                for caught in (NoRoad, FordError, ValueError):
                    with self.assertRaises(caught):
                        gate.lets(0, 0, x, left)
            with self.assertRaises(NoRoad):
                gate.lets(5, 0, 3, left)
        for thing in NO_NUMBERS + [3]:
            for caught in (NoTurn, FordError, ValueError):
                with self.assertRaises(caught):
                    gate.lets(0, 0, 3, thing)
        self.assertIs(gate.lets(0, 1, 15, 0), True)

    def test_what_is_refused_changes_nothing(self):
        gate = Gate(DAY, SIZE, ROADS, 2, 1)
        before = [gate.soonest(0, t, 1) for t in range(DAY)]
        for asked in (lambda: gate.soonest(9, 0, 0), lambda: gate.plan(0, 0, 9), lambda: gate.lets(0, 9, 0, 0)):
            with self.assertRaises(FordError):
                asked()
        self.assertEqual([gate.soonest(0, t, 1) for t in range(DAY)], before)


class TestOwnCopies(unittest.TestCase):

    def answers(self, gate):
        found = []
        for left in range(3):
            for t in (0, 4, 10, 16):
                found.append((gate.soonest(0, t, left), gate.plan(0, t, left), gate.lets(0, 0, 3, left)))
        return found

    def test_what_it_was_made_of_may_be_changed(self):
        roads = copy.deepcopy(ROADS)
        gate = Gate(DAY, SIZE, roads, 2, 2)
        self.assertEqual(roads, ROADS)
        before = self.answers(gate)
        self.assertEqual(roads, ROADS)
        roads[0][2][0] = (0, 0, 1)
        roads[1][2].clear()
        roads.pop()
        self.assertEqual(self.answers(gate), before)
        self.assertNotEqual(self.answers(Gate(DAY, SIZE, [(0, 1, [(3, 9, 5)])] + ROADS[1:], 2, 2)), before)

    def test_what_is_done_to_a_told_list_changes_nothing(self):
        gate = Gate(DAY, SIZE, ROADS, 2, 2)
        before = self.answers(gate)
        for t in (0, 4, 10, 16):
            told = gate.plan(0, t, 1)
            apart_and_own(self, [told, gate.plan(0, t, 1)], ROADS)
            told.append("mine")
            gate.plan(2, t, 1).append("mine")
        self.assertEqual(self.answers(gate), before)

    def test_two_gates_know_nothing_of_one_another(self):
        one = Gate(DAY, SIZE, ROADS, 2, 2)
        before = self.answers(one)
        other = Gate(DAY, SIZE, ROADS, 3, 1)
        self.assertIsNone(other.soonest(0, 0, 1))
        self.assertEqual(self.answers(one), before)


if __name__ == "__main__":
    unittest.main()
