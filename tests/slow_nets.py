"""Nets that several tests hand in, and plain slow ways to tell what is right of them."""

import functools
import random

from samples import JUNK, drawn_board

DAY = 24
# 0 quay, 1 ness, 2 mill, 3 cairn, which no road leads to.
FERRY = [(3, 9, 2), (15, 15, 1)]
ROADS = [(0, 1, FERRY), (1, 2, [(5, 5, 1), (11, 20, 4)]), (0, 2, [(0, 23, 13)]), (2, 0, [(6, 8, 3)]), (3, 0, [(1, 1, 1)])]
SIZE = 4

NO_SIZES = [0, -1, True, False, None, "", "2", (2,), [2], []]
NO_ROADS = JUNK + [tuple(ROADS), [list(ROADS[0])], [(0, 1)], [(0, 1, [], 0)], [(0, 4, [])], [(-1, 0, [])],
                   [(True, 0, [])], [(0, None, [])], [(0, 1, [(3, 9, 0)])], [(0, 1, [(3, 24, 2)])], [(0, 1, ())],
                   [(0, 1, [[3, 9, 2]])], [ROADS[0], None], [[]], [(0, 1, [(3, 9, True)])]]
NO_PLACES = [4, -1, 10 ** 30, True, False, None, "", "0", "quay", (), (0,), [], [0], [[[[]]]], ((((0,),),),)]
NO_MOST = [-1, -10 ** 30, True, False, None, "", "1", (), (1,), [], [1], [[[[]]]]]


def drawn_roads(source, day, size, count, most, ride):
    ways = [(source.randrange(size), source.randrange(size)) for number in range(count)]
    if source.random() < 0.6:
        # A round trip, so that there are journeys of many rides.
        order = source.sample(range(size), size)
        ways += zip(order, order[1:] + order[:1])
    return [(start, end, drawn_board(source, day, most, ride, least_ride=1)) for start, end in ways]


def drawn_nets(seed, count, days=(1, 2, 3, 5, 8), sizes=(1, 2, 3, 4)):
    source = random.Random(seed)
    for number in range(count):
        day = source.choice(days)
        size = source.choice(sizes)
        roads = drawn_roads(source, day, size, source.randint(0, 5), 3, source.choice([2, 4, 3 * day]))
        yield source, day, size, roads, source.randrange(size)


def great_net(source, day, ride):
    """A net as great as is promised: 8 places, 12 roads, 24 windows."""
    roads = [(k, k + 1, []) for k in range(7)]
    roads += [(source.randrange(8), source.randrange(8), []) for k in range(5)]
    for number in range(24):
        a = source.randrange(day)
        b = min(day - 1, a + source.choice([0, 1, day // 50, day // 5, day]))
        roads[number % 12][2].append((a, b, source.randint(1, ride)))
    return roads


def reckoner(day, roads, goal):
    """A function of a place, a moment and a number of rides: the soonest coming of all such journeys."""
    @functools.lru_cache(maxsize=None)
    def soonest(place, t, rides):
        found = [t] if place == goal else []
        for start, end, board in roads if rides else ():
            for x in range(t, t + day) if start == place else ():
                for a, b, c in board:
                    if a <= x % day <= b:
                        found.append(soonest(end, x + c, rides - 1))
        return min([moment for moment in found if moment is not None], default=None)
    return soonest


def keeper(day, roads, goal):
    """A function that tells whether s can be kept, by trying every ask and every answer."""
    @functools.lru_cache(maxsize=None)
    def keeps(place, t, left, s):
        if t > s or place == goal:
            return t <= s
        for start, end, board in roads:
            for x in range(t, s) if start == place else ():
                for a, b, c in board:
                    if a <= x % day <= b and keeps(end, x + c, left, s):
                        if left == 0 or keeps(place, x + 1, left - 1, s):
                            return True
        return False
    return keeps


def ridden(test, day, roads, place, t, row):
    """Follows a row of rides, and tells the place and the moment at its end."""
    for road, window, x, z in row:
        start, end, board = roads[road]
        a, b, c = board[window]
        test.assertEqual(start, place)
        test.assertGreaterEqual(x, t)
        test.assertTrue(a <= x % day <= b)
        test.assertEqual(z, x + c)
        place = end
        t = z
    return place, t


def lists_within(told):
    """Every list that is told, however deep."""
    found = [told] if isinstance(told, list) else []
    for part in told if isinstance(told, (list, tuple)) else ():
        found.extend(lists_within(part))
    return found


def apart_and_own(test, told, given):
    """No two lists of what is told are one, and none is one that was handed in."""
    found = lists_within(told)
    numbers = [id(part) for part in found]
    test.assertEqual(len(set(numbers)), len(numbers))
    test.assertFalse(set(numbers) & {id(part) for part in lists_within(given)})
