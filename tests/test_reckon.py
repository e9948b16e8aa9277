import copy
import itertools
import random
import unittest

from fordbook.clocks import come, is_clock, standing
from fordbook.errors import FordError, NoBoard
from fordbook.reckon import behind, clock_of, later, sooner
from samples import (FAR, JUNK, boards, clock_telling, clocks, drawn_board, drawn_clock, great_board, long_clock,
                     slow_clock, told_by)

DAY = 24
PAIRS = (sooner, later, behind)


def least(one, other):
    return min([moment for moment in (one, other) if moment is not None], default=None)


def greatest(one, other):
    return None if one is None or other is None else max(one, other)


class TestClockOf(unittest.TestCase):

    def right(self, day, board):
        clock = clock_of(day, board)
        self.assertIs(is_clock(day, clock), True, (day, board))
        self.assertEqual(clock, slow_clock(day, board), (day, board))
        for t in range(-day, 2 * day):
            self.assertEqual(come(day, clock, t), told_by(day, board, t), (day, board, t))

    def test_some_boards(self):
        self.assertEqual(clock_of(DAY, []), [])
        self.assertEqual(clock_of(DAY, [(3, 9, 2)]), [(3, 9, 2)])
        self.assertEqual(clock_of(DAY, [(15, 15, 1), (3, 9, 2)]), [(3, 9, 2), (15, 15, 1)])

    def test_windows_alike_and_over_one_another(self):
        self.assertEqual(clock_of(DAY, [(3, 9, 2), (3, 9, 2)]), [(3, 9, 2)])
        self.assertEqual(clock_of(DAY, [(3, 9, 2), (3, 9, 4)]), [(3, 9, 2)])
        self.assertEqual(clock_of(DAY, [(3, 9, 2), (6, 12, 2)]), [(3, 12, 2)])
        self.assertEqual(clock_of(DAY, [(3, 9, 2), (10, 12, 2)]), [(3, 12, 2)])
        self.assertEqual(clock_of(DAY, [(3, 9, 5), (6, 12, 2)]), [(6, 12, 2)])
        self.assertEqual(clock_of(DAY, [(2, 9, 5), (6, 12, 2)]), [(2, 2, 5), (6, 12, 2)])
        self.assertEqual(clock_of(DAY, [(0, 23, 5), (6, 8, 2)]), [(0, 2, 5), (6, 8, 2), (9, 23, 5)])

    def test_a_later_departure_that_comes_sooner(self):
        self.assertEqual(clock_of(DAY, [(3, 9, 10), (11, 11, 1)]), [(11, 11, 1)])
        self.assertEqual(clock_of(DAY, [(1, 9, 10), (11, 11, 1)]), [(1, 1, 10), (11, 11, 1)])
        self.assertEqual(clock_of(DAY, [(1, 9, 10), (11, 11, 0)]), [(11, 11, 0)])

    def test_over_midnight(self):
        self.assertEqual(clock_of(DAY, [(20, 23, 9), (1, 2, 1)]), [(1, 2, 1)])
        self.assertEqual(clock_of(DAY, [(16, 23, 9), (1, 2, 1)]), [(1, 2, 1), (16, 16, 9)])
        self.assertEqual(clock_of(DAY, [(0, 3, 2), (20, 23, 2)]), [(0, 3, 2), (20, 23, 2)])

    def test_rides_of_many_days(self):
        self.assertEqual(clock_of(DAY, [(3, 9, 100), (15, 15, 1)]), [(15, 15, 1)])
        self.assertEqual(clock_of(DAY, [(3, 9, 24), (5, 5, 0)]), [(5, 5, 0)])
        self.assertEqual(clock_of(DAY, [(3, 9, 1000), (15, 15, 1000 + 11)]), [(3, 9, 1000), (15, 15, 1011)])
        self.assertEqual(clock_of(DAY, [(3, 9, 1000), (15, 15, 1000 + 12)]), [(3, 9, 1000)])

    def test_a_day_of_one_moment(self):
        self.assertEqual(clock_of(1, [(0, 0, 7), (0, 0, 4), (0, 0, 5)]), [(0, 0, 4)])
        self.assertEqual(clock_of(1, []), [])

    def test_the_whole_day(self):
        self.assertEqual(clock_of(DAY, [(0, 23, 0), (3, 9, 0)]), standing(DAY))
        self.assertEqual(clock_of(DAY, [(1, 23, 0), (0, 0, 0)]), standing(DAY))
        self.assertEqual(clock_of(DAY, [(0, 23, 9), (0, 23, 8)]), [(0, 23, 8)])

    def test_all_small_boards(self):
        for day, rides, most in ((1, range(3), 3), (2, range(5), 3), (3, range(4), 2), (4, (0, 1, 5), 2)):
            for board in boards(day, rides, most):
                self.right(day, board)

    def test_drawn_boards(self):
        source = random.Random(2)
        for day, ride in ((5, 3), (5, 30), (12, 6), (12, 13), (24, 10), (24, 100), (31, 40)) * 12:
            self.right(day, drawn_board(source, day, 9, ride))

    def test_a_clock_taken_as_a_board_is_that_clock(self):
        for day, rides, most in ((1, range(4), 1), (2, range(6), 2), (3, range(8), 3)):
            for clock in clocks(day, rides, most):
                self.assertEqual(clock_of(day, clock), clock)
        for day, count in ((10 ** 15, 2000), (30000, 2000)):
            clock = long_clock(day, count, 10 ** 30)
            self.assertEqual(clock_of(day, clock), clock)

    def test_in_any_order_and_cut_into_parts(self):
        source = random.Random(3)
        for day, ride in ((7, 9), (12, 5), (24, 30)) * 15:
            board = drawn_board(source, day, 6, ride)
            clock = clock_of(day, board)
            cut = []
            for a, b, c in board:
                middle = source.randint(a, b)
                cut.extend([(a, middle, c), (middle + 1, b, c)] if middle < b else [(a, b, c)])
            cut.extend(board[:2])
            source.shuffle(cut)
            self.assertEqual(clock_of(day, cut), clock)

    def great(self, day, board):
        clock = clock_of(day, board)
        self.assertIs(is_clock(day, clock), True)
        ends = sorted(set(sum([[a, b, b + 1] for a, b, c in clock[::40] + board[::40]], [])))
        for t in ends:
            found = []
            for a, b, c in board:
                hour = t % day
                x = t if a <= hour <= b else t - hour + a + (0 if hour < a else day)
                found.append(x + c)
            self.assertEqual(come(day, clock, t), min(found))
        return clock

    def test_great_boards(self):
        source = random.Random(4)
        for day, ride in ((10 ** 15, 10 ** 30), (10 ** 15, 10 ** 12), (10 ** 15 - 1, 10 ** 15), (50000, 3000)):
            board = great_board(source, day, 2000, ride)
            clock = self.great(day, board)
            source.shuffle(board)
            self.assertEqual(clock_of(day, board), clock)

    def test_a_great_stair(self):
        day = 10 ** 15
        board = [(k, day - 1 - k, 10 ** 30 - k) for k in range(2000)]
        clock = self.great(day, board)
        steps = [(day - 1 - k, day - 1 - k, 10 ** 30 - k) for k in range(1998, -1, -1)]
        self.assertEqual(clock, [(1999, day - 2000, 10 ** 30 - 1999)] + steps)
        board = [(k * 10 ** 11, day - 1, 10 ** 30 + k) for k in range(2000)]
        self.assertEqual(clock_of(day, board), [(0, day - 1, 10 ** 30)])
        board = [(2 * k, 2 * k, 10 ** 30 + k % 2) for k in range(2000)]
        self.assertEqual(self.great(day, board), board)

    def test_no_board(self):
        good = (3, 9, 2)
        wrong = [(9, 3, 2), (3, 24, 2), (-1, 9, 2), (3, 9, -1), (3, 9), (3, 9, 2, 0), [3, 9, 2], None, "", 5, "abc",
                 (False, 9, 2), (0, True, 2), (3, 9, True), (3, None, 2), ("3", 9, 2), True, [good], [], (), (good,)]
        things = JUNK + [[thing] for thing in wrong] + [[good, thing] for thing in wrong]
        things += [(good,), [[]], [[[[]]]], [FAR], ["", ""], (3, 9, 2), [3, 9, 2]]
        for thing in things:
            before = copy.deepcopy(thing)
            for caught in (NoBoard, FordError, ValueError):
                with self.assertRaises(caught, msg=repr(thing)):
                    clock_of(DAY, thing)
            self.assertEqual(thing, before)
        with self.assertRaises(NoBoard):
            clock_of(9, [(3, 9, 2)])


class TestTwo(unittest.TestCase):

    def right(self, day, one, other):
        def at(clock, t):
            return None if t is None else told_by(day, clock, t)
        asked = ((sooner, lambda t: least(at(one, t), at(other, t))),
                 (later, lambda t: greatest(at(one, t), at(other, t))),
                 (behind, lambda t: at(other, at(one, t))))
        for reckoned, told in asked:
            clock = reckoned(day, one, other)
            self.assertIs(is_clock(day, clock), True, (reckoned, day, one, other))
            self.assertEqual(clock, clock_telling(day, told), (reckoned, day, one, other))
            for t in (-day - 1, -1, 0, day - 1, day, day + 1):
                self.assertEqual(come(day, clock, t), told(t), (reckoned, day, one, other, t))

    def test_some(self):
        ferry = [(3, 9, 2), (15, 15, 1)]
        ford = [(5, 5, 1), (11, 20, 4)]
        self.assertEqual(sooner(DAY, ferry, ford), [
            (3, 3, 2), (5, 5, 1), (6, 9, 2), (11, 11, 4), (15, 15, 1), (16, 20, 4)])
        self.assertEqual(later(DAY, ferry, ford), [(4, 5, 2), (9, 9, 6), (12, 15, 4), (20, 20, 9)])
        self.assertEqual(behind(DAY, ferry, ford), [(3, 3, 3), (9, 9, 6), (15, 15, 5)])
        self.assertEqual(behind(DAY, ford, ferry), [(5, 5, 3), (11, 11, 5), (20, 20, 9)])

    def test_never(self):
        ferry = [(3, 9, 2), (15, 15, 1)]
        for clock in (ferry, standing(DAY), []):
            self.assertEqual(sooner(DAY, clock, []), clock)
            self.assertEqual(sooner(DAY, [], clock), clock)
            for reckoned in (later, behind):
                self.assertEqual(reckoned(DAY, clock, []), [])
                self.assertEqual(reckoned(DAY, [], clock), [])

    def test_standing(self):
        for clock in ([(3, 9, 2), (15, 15, 1)], [(0, 23, 5)], [(0, 3, 2), (20, 23, 2)], standing(DAY)):
            self.assertEqual(sooner(DAY, clock, standing(DAY)), standing(DAY))
            self.assertEqual(later(DAY, clock, standing(DAY)), clock)
            self.assertEqual(behind(DAY, clock, standing(DAY)), clock)
            self.assertEqual(behind(DAY, standing(DAY), clock), clock)

    def test_days_of_one_moment(self):
        for one in range(4):
            for other in range(4):
                self.assertEqual(sooner(1, [(0, 0, one)], [(0, 0, other)]), [(0, 0, min(one, other))])
                self.assertEqual(later(1, [(0, 0, one)], [(0, 0, other)]), [(0, 0, max(one, other))])
                self.assertEqual(behind(1, [(0, 0, one)], [(0, 0, other)]), [(0, 0, one + other)])

    def test_windows_that_touch_lie_over_one_another_or_come_over_midnight(self):
        some = [[(3, 9, 2), (10, 12, 3)], [(4, 10, 2), (11, 11, 5)], [(0, 3, 2), (20, 23, 2)], [(0, 3, 3), (20, 23, 2)],
                [(3, 9, 2), (15, 20, 8)], [(22, 23, 30)], [(0, 0, 100)], [(23, 23, 1)], [(5, 8, 0), (9, 20, 1)]]
        for one in some:
            for other in some:
                self.right(DAY, one, other)

    def test_all_small_clocks(self):
        for day, rides, most in ((1, range(4), 1), (2, range(5), 2), (3, (0, 1, 2, 4), 3)):
            found = clocks(day, rides, most)
            for one in found:
                for other in found:
                    self.right(day, one, other)

    def test_drawn_clocks(self):
        source = random.Random(5)
        for day, ride in ((5, 3), (7, 20), (12, 6), (24, 10), (24, 60)) * 20:
            self.right(day, drawn_clock(source, day, 6, ride), drawn_clock(source, day, 6, ride))

    def test_the_same_in_either_order(self):
        source = random.Random(6)
        for day, ride in ((5, 9), (12, 6), (24, 60)) * 20:
            one, other, third = [drawn_clock(source, day, 6, ride) for number in range(3)]
            for reckoned in PAIRS:
                self.assertEqual(reckoned(day, reckoned(day, one, other), third),
                                 reckoned(day, one, reckoned(day, other, third)))
            for reckoned in (sooner, later):
                self.assertEqual(reckoned(day, one, other), reckoned(day, other, one))
                self.assertEqual(reckoned(day, one, one), one)
            self.assertEqual(sooner(day, one, other), clock_of(day, other + one))
            self.assertEqual(behind(day, sooner(day, one, other), third),
                             sooner(day, behind(day, one, third), behind(day, other, third)))

    def test_great_clocks(self):
        source = random.Random(7)
        for day, ride in ((10 ** 15, 10 ** 30), (10 ** 15 - 1, 10 ** 15), (40000, 10 ** 20)):
            some = [long_clock(day, 2000, ride), clock_of(day, great_board(source, day, 2000, ride // 3)),
                    long_clock(day, 1999, ride - day // 3), [(0, day - 1, ride)], [(day - 1, day - 1, ride)]]
            for one, other in itertools.product(some, repeat=2):
                found = [reckoned(day, one, other) for reckoned in PAIRS]
                for clock in found:
                    self.assertIs(is_clock(day, clock), True)
                moments = [a + near for a, b, c in one[::90] + other[::90] for near in (-1, 0, b - a, b - a + 1)]
                for t in moments + [-FAR, FAR]:
                    first = come(day, one, t)
                    second = come(day, other, t)
                    told = [come(day, clock, t) for clock in found]
                    self.assertEqual(told, [min(first, second), max(first, second), come(day, other, first)])

    def test_nothing_is_changed_or_kept(self):
        for one, other in itertools.product([[(3, 9, 2), (15, 15, 1)], [], [(0, 23, 0)]], repeat=2):
            before = (list(one), list(other))
            for reckoned in PAIRS:
                told = reckoned(DAY, one, other)
                again = list(told)
                self.assertEqual((one, other), before)
                self.assertIsNot(told, one)
                self.assertIsNot(told, other)
                told.append("mine")
                self.assertEqual((one, other), before)
                self.assertEqual(reckoned(DAY, one, other), again)
            told = clock_of(DAY, one)
            self.assertIsNot(told, one)
            told.append("mine")
            self.assertEqual(one, before[0])
            self.assertEqual(clock_of(DAY, one), before[0])


if __name__ == "__main__":
    unittest.main()
