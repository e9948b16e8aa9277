"""What is promised over the whole program: its parts tell the same, and its names are as the document lists them."""

import importlib
import inspect
import random
import unittest

from fordbook.asks import levels
from fordbook.clocks import come, is_clock, leave
from fordbook.desk import Desk
from fordbook.fewest import apart, fewest
from fordbook.gates import Gate
from fordbook.journeys import journey, last_journey
from fordbook.meetings import meeting
from fordbook.orders import no_later
from fordbook.reckon import behind, clock_of, sooner
from fordbook.spare import thinned
from fordbook.tables import rounds, table, table_from, undercut
from fordbook.texts import show_net
from fordbook.turning import turned, turned_board
from slow_nets import drawn_nets, great_net

INTERFACE = {
    "windows": ["is_window(day, thing)", "is_board(day, thing)", "open_at(day, window, t)", "next_open(day, window, t)",
                "last_open(day, window, t)"],
    "clocks": ["is_clock(day, thing)", "set_off(day, clock, t)", "come(day, clock, t)", "leave(day, clock, s)",
               "standing(day)"],
    "stretches": ["stretches(day, clock)"],
    "reckon": ["sooner(day, one, other)", "later(day, one, other)", "behind(day, one, other)", "clock_of(day, board)"],
    "turning": ["turned_board(day, board)", "turned(day, clock)"],
    "orders": ["first_later(day, one, other)", "no_later(day, one, other)"],
    "fewest": ["fewest(day, clock)", "apart(day, clock)"],
    "waits": ["longest(day, clock)", "sum_of(day, clock)"],
    "nets": ["is_net(day, size, roads)"],
    "tables": ["rounds(day, size, roads, goal)", "table(day, size, roads, goal)", "table_from(day, size, roads, start)",
               "undercut(day, size, roads, goal, told)"],
    "journeys": ["journey(day, size, roads, goal, place, t)", "last_journey(day, size, roads, goal, place, s)",
                 "fewest_rides(day, size, roads, goal, place, t, s)"],
    "asks": ["levels(day, size, roads, goal, most)"],
    "gates": ["Gate(day, size, roads, goal, most=1)", "Gate.soonest(self, place, t, left)",
              "Gate.plan(self, place, t, left)", "Gate.lets(self, road, window, x, left)"],
    "meetings": ["meeting(day, size, roads, party)", "meet_at(day, size, roads, party, t)"],
    "spare": ["thinned(day, size, roads, goal)", "needs(day, size, roads, goal)"],
    "texts": ["read_net(text)", "show_net(day, names, roads)"],
    "desk": ["Desk(text)", "Desk.say(self, row)"],
}


def turned_net(day, roads):
    return [(end, start, turned_board(day, board)) for start, end, board in roads]


class TestInterface(unittest.TestCase):

    def test_names_and_arguments(self):
        for module, rows in INTERFACE.items():
            for row in rows:
                found = importlib.import_module("fordbook." + module)
                for name in row.partition("(")[0].split("."):
                    found = getattr(found, name)
                self.assertEqual(row.partition("(")[0] + str(inspect.signature(found)), row)


class TestWhole(unittest.TestCase):

    def nets(self, seed):
        source = random.Random(seed)
        for source, day, size, roads, goal in drawn_nets(seed, 40):
            yield day, size, roads, goal
        for day, ride in ((10 ** 15, 10 ** 15), (1000, 10 ** 15), (1000, 90), (24, 20)):
            yield day, 8, great_net(source, day, ride), 7

    def test_leaving_as_late_as_can_be_is_the_same_with_time_turned_about(self):
        for day, size, roads, goal in self.nets(91):
            back = table_from(day, size, turned_net(day, roads), goal)
            for place, clock in enumerate(table(day, size, roads, goal)):
                self.assertEqual(turned(day, clock), back[place])
                for s in (0, day // 2) if clock else ():
                    self.assertEqual(leave(day, clock, s), -come(day, back[place], -s))

    def test_the_moment_that_is_told_is_kept_and_not_undercut(self):
        for day, size, roads, goal in self.nets(92):
            told = table(day, size, roads, goal)
            self.assertIsNone(undercut(day, size, roads, goal, told))
            for place, clock in enumerate(told):
                for t in (-1, 0, day // 2):
                    row = journey(day, size, roads, goal, place, t)
                    end = come(day, clock, t)
                    self.assertEqual(None if row is None else (row[-1][3] if row else t), end)
                    last = last_journey(day, size, roads, goal, place, t)
                    if last:
                        self.assertEqual(last[0][2], leave(day, clock, t))

    def test_equal_lists_in_whatever_way_each_was_made(self):
        for day, size, roads, goal in self.nets(93):
            told = table(day, size, roads, goal)
            self.assertEqual(levels(day, size, roads, goal, 0)[0], told)
            self.assertEqual(table(day, size, roads[::-1], goal), told)
            self.assertEqual(table(day, size, thinned(day, size, roads, goal), goal), told)
            alone = [(start, end, [window]) for start, end, board in roads for window in board]
            self.assertEqual(table(day, size, alone, goal), told)
            for place, clock in enumerate(told):
                self.assertEqual(meeting(day, size, roads, [(place, 0), (place, 0)]), [(0, day - 1, 0)])
                if place != goal:
                    ways = []
                    for start, end, board in roads:
                        if start == place:
                            ways = sooner(day, ways, behind(day, clock_of(day, board), told[end]))
                    self.assertEqual(ways, clock)

    def test_of_the_boards_that_have_a_clock_none_has_fewer_windows(self):
        for day, size, roads, goal in self.nets(94):
            for told in levels(day, size, roads, goal, 2):
                for clock in told:
                    self.assertIs(is_clock(day, clock), True)
                    board = fewest(day, clock)
                    self.assertEqual(clock_of(day, board), clock)
                    self.assertEqual(len(apart(day, clock)), len(board))
                    self.assertLessEqual(len(board), len(clock))

    def test_more_rides_and_fewer_turnings_away_are_never_later(self):
        for day, size, roads, goal in self.nets(95):
            tables = rounds(day, size, roads, goal) + levels(day, size, roads, goal, 3)[::-1][3:]
            for one, other in zip(tables, tables[1:]):
                for before, following in zip(one, other):
                    self.assertIs(no_later(day, following, before), True)

    def test_the_desk_and_the_gate_tell_the_same(self):
        names = ["a", "b", "c", "d", "e", "f", "g", "h"]
        for day, size, roads, goal in self.nets(96):
            used = list(dict.fromkeys(place for road in roads for place in road[:2]))
            if used != list(range(len(used))) or goal not in used:
                continue
            desk = Desk(show_net(day, names[:len(used)], roads))
            gate = Gate(day, len(used), roads, goal, 3)
            for place in used:
                for left in range(4):
                    for t in (-5, 0, day // 2):
                        told = gate.soonest(place, t, left)
                        row = f"kept {names[place]} {names[goal]} {t} {left}"
                        self.assertEqual(desk.say(row), "never" if told is None else str(told))


if __name__ == "__main__":
    unittest.main()
