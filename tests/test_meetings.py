import copy
import random
import unittest

from fordbook.clocks import come, is_clock, standing
from fordbook.errors import FordError, NoNet, NoPlace
from fordbook.meetings import meet_at, meeting
from fordbook.tables import table_from
from samples import FAR, clock_telling
from slow_nets import (DAY, NO_PLACES, NO_ROADS, NO_SIZES, ROADS, SIZE, apart_and_own, drawn_nets, great_net, reckoner)

NO_PARTIES = [[], (), None, True, 0, 1, "", "quay", ((0, 0),), (0, 0), [0, 0], [[0, 0]], [(0,)], [(0, 0, 0)], [()],
              [(0, -1)], [(0, True)], [(0, False)], [(0, None)], [(0, "0")], [(0, [0])], [(0, (0,))], [None], [[]],
              [(0, 0), None], [(0, 0), (1, -1)], [(0, 0), (4, 0)], [(0, 0)] * 7, [((0, 0),)], [[[[]]]]]


def drawn_party(source, size, day):
    return [(source.randrange(size), source.choice([0, 0, 1, day, source.randint(0, 3 * day)]))
            for number in range(source.randint(1, 6))]


class TestMeetings(unittest.TestCase):

    def right(self, day, size, roads, party):
        found = [reckoner(day, roads, place) for place in range(size)]

        def there(place, t):
            comings = [found[place](start, t + delay, size) for start, delay in party]
            return None if None in comings else max(comings)

        def soonest(t):
            return min([(there(place, t), place) for place in range(size) if there(place, t) is not None], default=None)

        clock = meeting(day, size, roads, party)
        self.assertIs(is_clock(day, clock), True)
        self.assertEqual(clock, clock_telling(day, lambda t: soonest(t) and soonest(t)[0]), (day, size, roads, party))
        for t in range(-day, day + 2):
            best = soonest(t)
            told = meet_at(day, size, roads, party, t)
            self.assertEqual(told, None if best is None else (best[1], best[0]), (day, size, roads, party, t))
            self.assertEqual(come(day, clock, t), None if best is None else best[0])

    def test_some(self):
        self.assertEqual(meet_at(DAY, SIZE, ROADS, [(0, 0), (1, 0)], 0), (1, 5))
        self.assertEqual(meet_at(DAY, SIZE, ROADS, [(0, 0), (2, 0)], 0), (2, 6))
        self.assertEqual(meet_at(DAY, SIZE, ROADS, [(0, 0), (2, 0)], 4), (0, 9))
        self.assertEqual(meet_at(DAY, SIZE, ROADS, [(0, 0), (2, 4)], 0), (2, 6))
        self.assertEqual(meet_at(DAY, SIZE, ROADS, [(0, 4), (2, 0)], 0), (0, 9))
        self.assertIs(type(meet_at(DAY, SIZE, ROADS, [(0, 0)], 0)), tuple)

    def test_one_member_is_there_at_once(self):
        for t in (-FAR, -1, 0, FAR):
            self.assertEqual(meet_at(DAY, SIZE, ROADS, [(3, 0)], t), (3, t))
            self.assertEqual(meet_at(DAY, SIZE, ROADS, [(1, 10 ** 15)], t), (1, t + 10 ** 15))
        self.assertEqual(meeting(DAY, SIZE, ROADS, [(3, 0)]), standing(DAY))
        self.assertEqual(meeting(DAY, SIZE, ROADS, [(3, 50)]), [(0, 23, 50)])

    def test_members_alike(self):
        for party in ([(1, 0)] * 6, [(1, 0), (1, 5), (1, 5)], [(0, 3), (2, 1), (0, 3)]):
            self.right(DAY, SIZE, ROADS, party)
        self.assertEqual(meeting(DAY, SIZE, ROADS, [(1, 0), (1, 5), (1, 5)]), [(0, 23, 5)])

    def test_the_least_of_several_places_as_soon(self):
        roads = [(0, 2, [(0, 9, 3)]), (1, 2, [(0, 9, 3)]), (0, 1, [(0, 9, 3)]), (1, 0, [(0, 9, 3)])]
        self.assertEqual(meet_at(10, 3, roads, [(0, 0), (1, 0)], 4), (0, 7))
        self.assertEqual(meet_at(10, 3, roads[:3], [(0, 0), (1, 0)], 4), (1, 7))
        self.assertEqual(meet_at(10, 3, roads[:2], [(0, 0), (1, 0)], 4), (2, 7))

    def test_all_never(self):
        self.assertEqual(meeting(DAY, 2, [], [(0, 0), (1, 0)]), [])
        self.assertIsNone(meet_at(DAY, 2, [], [(0, 0), (1, 0)], 5))
        roads = [(0, 2, [(1, 1, 1)]), (1, 3, [(1, 1, 1)])]
        self.assertEqual(meeting(DAY, 4, roads, [(0, 0), (1, 0)]), [])
        self.assertIsNone(meet_at(DAY, 4, roads, [(0, 0), (1, 0)], 5))

    def test_a_place_that_one_of_them_never_reaches(self):
        self.assertEqual(meet_at(DAY, SIZE, ROADS, [(3, 0), (0, 0)], 0), (0, 2))
        roads = [(0, 1, [(0, 23, 1)]), (0, 2, [(0, 23, 9)]), (3, 2, [(0, 23, 1)])]
        self.assertEqual(meet_at(DAY, 4, roads, [(0, 0), (3, 0)], 0), (2, 9))
        self.assertEqual(meeting(DAY, 4, roads, [(0, 0), (3, 0)]), [(0, 23, 9)])

    def test_drawn_nets(self):
        for source, day, size, roads, goal in drawn_nets(61, 120, days=(1, 2, 3, 5)):
            self.right(day, size, roads, drawn_party(source, size, day))

    def test_great_nets(self):
        source = random.Random(62)
        for day, ride in ((10 ** 15, 10 ** 15), (1000, 10 ** 15), (1000, 90)):
            roads = great_net(source, day, ride)
            party = [(place, source.choice([0, 10 ** 15, source.randint(0, 10 ** 15)])) for place in range(6)]
            clock = meeting(day, 8, roads, party)
            self.assertIs(is_clock(day, clock), True)
            tables = [table_from(day, 8, roads, start) for start, delay in party]
            for t in (-FAR, 0, day // 3, day // 2, FAR):
                found = []
                for place in range(8):
                    comings = [come(day, told[place], t + delay) for told, (start, delay) in zip(tables, party)]
                    if None not in comings:
                        found.append((max(comings), place))
                best = min(found)
                self.assertEqual(meet_at(day, 8, roads, party, t), (best[1], best[0]))
                self.assertEqual(come(day, clock, t), best[0])

    def test_refusals(self):
        for asked in (meeting, lambda *given: meet_at(*given, 0)):
            for thing in NO_SIZES:
                with self.assertRaises(NoNet):
                    asked(DAY, thing, ROADS, [])
            for thing in NO_ROADS:
                with self.assertRaises(NoNet):
                    asked(DAY, SIZE, thing, None)
            for thing in NO_PARTIES + [[(place, 0)] for place in NO_PLACES]:
                before = copy.deepcopy(thing)
                for caught in (NoPlace, FordError, ValueError):
                    with self.assertRaises(caught, msg=repr(thing)):
                        asked(DAY, SIZE, ROADS, thing)
                self.assertEqual(thing, before)
            asked(DAY, SIZE, ROADS, [(0, 0)] * 6)

    def test_nothing_is_changed_or_kept(self):
        roads = copy.deepcopy(ROADS)
        party = [(0, 0), (2, 1)]
        told = meeting(DAY, SIZE, roads, party)
        again = list(told)
        meet_at(DAY, SIZE, roads, party, 5)
        self.assertEqual((roads, party), (ROADS, [(0, 0), (2, 1)]))
        apart_and_own(self, told, [roads, party])
        told.clear()
        self.assertEqual(meeting(DAY, SIZE, roads, party), again)
        party.pop()
        self.assertEqual(meeting(DAY, SIZE, roads, party), standing(DAY))


if __name__ == "__main__":
    unittest.main()
