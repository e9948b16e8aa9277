import random
import unittest

from fordbook.clocks import come, is_clock, leave, standing
from fordbook.reckon import clock_of
from fordbook.turning import turned, turned_board
from samples import FAR, clocks, departures, drawn_board, drawn_clock, great_board, long_clock, windows

DAY = 24


def hours_turned(day, window):
    a, b, c = window
    return sorted({-(x + c) % day for x in range(a, b + 1)})


class TestTurnedBoard(unittest.TestCase):

    def test_one_window(self):
        self.assertEqual(turned_board(DAY, [(3, 9, 2)]), [(13, 19, 2)])
        self.assertEqual(turned_board(DAY, [(15, 15, 1)]), [(8, 8, 1)])
        self.assertEqual(turned_board(DAY, [(1, 23, 0)]), [(1, 23, 0)])
        self.assertEqual(turned_board(DAY, [(0, 0, 0)]), [(0, 0, 0)])
        self.assertEqual(turned_board(1, [(0, 0, 5)]), [(0, 0, 5)])
        self.assertEqual(turned_board(DAY, [(0, 23, 1)]), [(0, 23, 1)])

    def test_two_windows_over_midnight(self):
        self.assertEqual(turned_board(DAY, [(0, 5, 0)]), [(19, 23, 0), (0, 0, 0)])
        self.assertEqual(turned_board(DAY, [(18, 22, 4)]), [(22, 23, 4), (0, 2, 4)])
        self.assertEqual(turned_board(DAY, [(18, 19, 5)]), [(0, 1, 5)])
        self.assertEqual(turned_board(DAY, [(18, 19, 6)]), [(23, 23, 6), (0, 0, 6)])
        self.assertEqual(turned_board(DAY, [(18, 19, 7)]), [(22, 23, 7)])

    def test_window_by_window_in_order(self):
        board = [(15, 15, 1), (18, 22, 4), (3, 9, 2), (15, 15, 1)]
        self.assertEqual(turned_board(DAY, board), [(8, 8, 1), (22, 23, 4), (0, 2, 4), (13, 19, 2), (8, 8, 1)])
        self.assertEqual(turned_board(DAY, []), [])

    def test_rides_of_many_days(self):
        self.assertEqual(turned_board(DAY, [(3, 9, 2 + 24 * 10 ** 20)]), [(13, 19, 2 + 24 * 10 ** 20)])
        self.assertEqual(turned_board(DAY, [(18, 22, 100)]), [(22, 23, 100), (0, 2, 100)])
        self.assertEqual(turned_board(10 ** 15, [(0, 4, 10 ** 30)]), [(10 ** 15 - 4, 10 ** 15 - 1, 10 ** 30),
                                                                       (0, 0, 10 ** 30)])

    def test_all_small_windows(self):
        for day in (1, 2, 3, 4, 7):
            for window in windows(day, range(2 * day + 2)):
                found = turned_board(day, [window])
                hours = hours_turned(day, window)
                covered = [hour for a, b, c in found for hour in range(a, b + 1)]
                self.assertEqual(sorted(covered), hours, (day, window))
                self.assertEqual({c for a, b, c in found}, {window[2]})
                if window[1] - window[0] < day - 1:
                    self.assertEqual(len(found), 1 if hours[-1] - hours[0] == len(hours) - 1 else 2, (day, window))
                if len(found) == 2:
                    self.assertEqual((found[0][1], found[1][0]), (day - 1, 0), (day, window))

    def test_each_departure_is_turned(self):
        source = random.Random(8)
        for day, ride in ((5, 12), (12, 9), (24, 60)) * 10:
            board = drawn_board(source, day, 4, ride)
            back = {(-y, -x) for x, y in departures(day, board, -200, 200)}
            found = set(departures(day, turned_board(day, board), -100, 100))
            self.assertEqual(found, {pair for pair in back if -100 <= pair[0] <= 100})

    def test_twice_it_has_the_same_clock(self):
        source = random.Random(9)
        for day, ride in ((5, 12), (24, 60), (10 ** 15, 10 ** 30)) * 10:
            board = great_board(source, day, 20, ride)
            twice = turned_board(day, turned_board(day, board))
            self.assertEqual(clock_of(day, twice), clock_of(day, board))


class TestTurned(unittest.TestCase):

    def right(self, day, clock, moments):
        back = turned(day, clock)
        self.assertIs(is_clock(day, back), True, (day, clock))
        self.assertEqual(turned(day, back), clock, (day, clock))
        for s in moments:
            self.assertEqual(come(day, back, -s), -leave(day, clock, s), (day, clock, s))
            self.assertEqual(leave(day, back, -s), -come(day, clock, s), (day, clock, s))

    def test_some(self):
        self.assertEqual(turned(DAY, [(3, 9, 2), (15, 15, 1)]), [(8, 8, 1), (13, 19, 2)])
        self.assertEqual(turned(DAY, [(18, 22, 4)]), [(0, 2, 4), (22, 23, 4)])
        self.assertEqual(turned(DAY, [(0, 3, 2), (20, 23, 2)]), [(0, 2, 2), (19, 23, 2)])

    def test_standing_and_never(self):
        for day in (1, 2, DAY, 10 ** 15):
            self.assertEqual(turned(day, standing(day)), standing(day))
            self.assertEqual(turned(day, [(0, day - 1, 5)]), [(0, day - 1, 5)])
            self.assertEqual(turned(day, []), [])

    def test_all_small_clocks(self):
        for day, rides, most in ((1, range(4), 1), (2, range(6), 2), (3, range(8), 3), (4, range(6), 2)):
            for clock in clocks(day, rides, most):
                if clock:
                    self.right(day, clock, range(-2 * day, 2 * day))

    def test_drawn_clocks(self):
        source = random.Random(10)
        for day, ride in ((7, 5), (12, 40), (24, 20)) * 15:
            clock = drawn_clock(source, day, 6, ride)
            if clock:
                self.right(day, clock, list(range(-day, day)) + [FAR, -FAR])

    def test_great_clocks(self):
        source = random.Random(11)
        for day, ride in ((10 ** 15, 10 ** 30), (40000, 10 ** 30)):
            for clock in (long_clock(day, 2000, ride), clock_of(day, great_board(source, day, 2000, ride))):
                ends = [end + near for a, b, c in clock[::100] for end in (a + c, b + c) for near in (-1, 0, 1)]
                self.right(day, clock, ends + [FAR, -FAR])

    def test_nothing_is_changed_or_kept(self):
        for asked in (turned, turned_board):
            for clock in ([(3, 9, 2), (15, 15, 1)], [], standing(DAY)):
                before = list(clock)
                told = asked(DAY, clock)
                again = list(told)
                self.assertEqual(clock, before)
                self.assertIsNot(told, clock)
                told.append("mine")
                self.assertEqual(clock, before)
                self.assertEqual(asked(DAY, clock), again)


if __name__ == "__main__":
    unittest.main()
