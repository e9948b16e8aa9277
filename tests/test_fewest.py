import random
import unittest

from fordbook.clocks import come, standing
from fordbook.fewest import apart, fewest
from fordbook.reckon import clock_of
from fordbook.windows import is_board
from samples import boards, clocks, drawn_clock, great_board, long_clock, told_by

DAY = 24


def harmless(day, clock, c, y):
    return y + c >= told_by(day, clock, y)


def slow_groups(day, clock):
    """The board of [16], window by window and moment by moment."""
    found = []
    for c in sorted({window[2] for window in clock}):
        group = None
        for a, b, ride in clock:
            if ride != c:
                continue
            if group and all(harmless(day, clock, c, y) for y in range(group[1] + 1, a)):
                group = (group[0], b, c)
                found[-1] = group
            else:
                group = (a, b, c)
                found.append(group)
    return sorted(found)


def slow_apart(day, clock):
    found = []
    for a, b, c in slow_groups(day, clock):
        ahead = [x for x, ride, y in found if ride == c]
        y = None
        if ahead:
            y = ahead[-1] + 1
            while harmless(day, clock, c, y):
                y += 1
        found.append((a, c, y))
    return found


class TestFewest(unittest.TestCase):

    def right(self, day, clock):
        board = fewest(day, clock)
        self.assertTrue(is_board(day, board), (day, clock))
        self.assertEqual(board, slow_groups(day, clock), (day, clock))
        self.assertEqual(clock_of(day, board), clock, (day, clock))
        self.assertEqual(apart(day, clock), slow_apart(day, clock), (day, clock))

    def test_harmless_moments_between(self):
        clock = [(0, 2, 5), (6, 8, 2), (9, 23, 5)]
        self.assertEqual(fewest(DAY, clock), [(0, 23, 5), (6, 8, 2)])
        self.assertEqual(apart(DAY, clock), [(0, 5, None), (6, 2, None)])

    def test_one_harmful_moment_between(self):
        self.assertEqual(fewest(DAY, [(3, 9, 5), (11, 14, 5)]), [(3, 9, 5), (11, 14, 5)])
        self.assertEqual(apart(DAY, [(3, 9, 5), (11, 14, 5)]), [(3, 5, None), (11, 5, 10)])
        self.assertEqual(fewest(DAY, [(3, 9, 5), (12, 12, 4), (13, 14, 5)]), [(3, 9, 5), (12, 12, 4), (13, 14, 5)])
        self.assertEqual(fewest(DAY, [(3, 9, 5), (11, 11, 4), (12, 14, 5)]), [(3, 14, 5), (11, 11, 4)])

    def test_touching_ones_of_unlike_rides(self):
        clock = [(3, 9, 2), (10, 12, 3)]
        self.assertEqual(fewest(DAY, clock), clock)
        self.assertEqual(apart(DAY, clock), [(3, 2, None), (10, 3, None)])
        clock = [(3, 9, 2), (10, 12, 3), (14, 15, 2)]
        self.assertEqual(fewest(DAY, clock), clock)
        self.assertEqual(apart(DAY, clock), [(3, 2, None), (10, 3, None), (14, 2, 10)])

    def test_groups_lie_within_the_day(self):
        clock = [(0, 3, 2), (20, 23, 2)]
        self.assertEqual(fewest(DAY, clock), clock)
        self.assertEqual(apart(DAY, clock), [(0, 2, None), (20, 2, 4)])

    def test_rides_whose_windows_lie_among_one_another(self):
        clock = [(0, 1, 9), (4, 4, 7), (8, 9, 4), (10, 10, 7), (13, 14, 5), (15, 19, 7), (20, 23, 9)]
        self.right(DAY, clock)
        self.assertEqual(fewest(DAY, clock), [(0, 23, 9), (4, 19, 7), (8, 9, 4), (13, 14, 5)])
        clock = [(0, 1, 9), (4, 4, 7), (8, 9, 4), (10, 10, 7), (13, 14, 5), (16, 19, 7), (20, 23, 9)]
        self.right(DAY, clock)
        self.assertEqual(fewest(DAY, clock), [(0, 23, 9), (4, 10, 7), (8, 9, 4), (13, 14, 5), (16, 19, 7)])
        self.assertEqual(apart(DAY, clock)[-1], (16, 7, 15))

    def test_several_groups_of_one_ride(self):
        clock = [(1, 1, 2), (4, 4, 2), (8, 8, 0), (12, 12, 2), (16, 16, 2)]
        self.assertEqual(fewest(DAY, clock), clock)
        self.assertEqual(apart(DAY, clock), [(1, 2, None), (4, 2, 2), (8, 0, None), (12, 2, 5), (16, 2, 13)])

    def test_y_is_the_first_harmful_moment_behind_the_whole_group(self):
        clock = [(0, 2, 5), (6, 8, 2), (9, 12, 5), (20, 21, 5)]
        self.assertEqual(fewest(DAY, clock), [(0, 12, 5), (6, 8, 2), (20, 21, 5)])
        self.assertEqual(apart(DAY, clock), [(0, 5, None), (6, 2, None), (20, 5, 13)])

    def test_rides_of_many_days(self):
        clock = [(0, 2, 1005), (6, 8, 1002), (9, 12, 1005), (20, 21, 1005)]
        self.assertEqual(fewest(DAY, clock), [(0, 12, 1005), (6, 8, 1002), (20, 21, 1005)])
        self.assertEqual(apart(DAY, clock), [(0, 1005, None), (6, 1002, None), (20, 1005, 13)])
        self.right(DAY, clock)

    def test_standing_and_never(self):
        for day in (1, 2, DAY, 10 ** 15):
            self.assertEqual(fewest(day, standing(day)), standing(day))
            self.assertEqual(apart(day, standing(day)), [(0, 0, None)])
            self.assertEqual(fewest(day, []), [])
            self.assertEqual(apart(day, []), [])

    def test_all_small_clocks(self):
        for day, rides, most in ((1, range(4), 1), (2, range(6), 2), (3, range(8), 3), (4, range(6), 3), (5, (1, 2), 3)):
            for clock in clocks(day, rides, most):
                self.right(day, clock)

    def test_drawn_clocks(self):
        source = random.Random(14)
        for day, ride in ((7, 5), (12, 9), (24, 12), (40, 30), (40, 90)) * 20:
            self.right(day, drawn_clock(source, day, 12, ride))

    def test_no_board_of_the_clock_has_fewer_windows(self):
        for day, rides, most in ((3, range(5), 2), (4, range(1, 5), 2), (5, (1, 2, 3), 2)):
            found = {}
            for board in boards(day, rides, most):
                # Shorter ones come first, so the first length that is found is the least.
                found.setdefault(tuple(clock_of(day, board)), len(board))
            for clock, least in found.items():
                self.assertEqual(len(fewest(day, list(clock))), least, (day, clock))
            for clock in clocks(day, rides, 3):
                if tuple(clock) not in found:
                    self.assertGreater(len(fewest(day, clock)), most, (day, clock))

    def test_no_two_of_apart_stand_in_one_window(self):
        source = random.Random(15)
        for day, ride in ((12, 9), (24, 12), (40, 90)) * 10:
            clock = drawn_clock(source, day, 12, ride)
            told = apart(day, clock)
            for x, c, y in told:
                self.assertEqual(told_by(day, clock, x), x + c)
                if y is not None:
                    ahead = max(other for other, ride, moment in told if ride == c and other < x)
                    self.assertTrue(ahead < y < x)
                    self.assertLess(y + c, told_by(day, clock, y))

    def test_great_clocks(self):
        source = random.Random(16)
        for day, ride in ((10 ** 15, 10 ** 30), (60000, 10 ** 30)):
            drawn = clock_of(day, great_board(source, day, 2000, ride))
            step = day // 2001
            nested = [(k * step, k * step + (k % 7), ride - min(k, 1999 - k)) for k in range(2000)]
            full = []
            for k in range(500):
                full.extend([(4 * k * step, 4 * k * step, ride), (4 * k * step + 3, 4 * k * step + 4, ride - 2)])
            for clock in (drawn, nested, full, long_clock(day, 2000, ride)):
                board = fewest(day, clock)
                self.assertEqual(clock_of(day, board), clock)
                self.assertEqual(board, sorted(board))
                told = apart(day, clock)
                self.assertEqual([(a, c) for a, b, c in board], [(x, c) for x, c, y in told])
                for x, c, y in told:
                    if y is not None:
                        self.assertLess(y + c, come(day, clock, y))
                        self.assertGreaterEqual(y - 1 + c, come(day, clock, y - 1))

    def test_nothing_is_changed_or_kept(self):
        clock = [(0, 2, 5), (6, 8, 2), (9, 12, 5), (20, 21, 5)]
        before = list(clock)
        for asked in (fewest, apart):
            told = asked(DAY, clock)
            again = list(told)
            self.assertTrue(all(type(part) is tuple for part in told))
            self.assertEqual(clock, before)
            self.assertIsNot(told, clock)
            told.append("mine")
            told[0] = None
            self.assertEqual(clock, before)
            self.assertEqual(asked(DAY, clock), again)
            asked(DAY, []).append("mine")
            self.assertEqual(asked(DAY, []), [])


if __name__ == "__main__":
    unittest.main()
