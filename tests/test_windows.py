import copy
import unittest

from fordbook.windows import is_board, is_window, last_open, next_open, open_at
from samples import FAR, JUNK, windows

DAY = 24


class TestIsWindow(unittest.TestCase):

    def yes(self, day, thing):
        self.assertIs(is_window(day, thing), True, (day, thing))

    def no(self, day, thing):
        self.assertIs(is_window(day, thing), False, (day, thing))

    def test_windows(self):
        for thing in [(3, 9, 2), (15, 15, 1), (0, 0, 0), (0, 23, 0), (23, 23, 0), (0, 23, 10 ** 30)]:
            self.yes(DAY, thing)
        self.yes(1, (0, 0, 0))
        self.yes(1, (0, 0, 7))
        self.yes(10 ** 15, (0, 10 ** 15 - 1, 10 ** 15))

    def test_ends(self):
        self.no(DAY, (4, 3, 0))
        self.yes(DAY, (3, 3, 0))
        self.yes(DAY, (3, DAY - 1, 0))
        self.no(DAY, (3, DAY, 0))
        self.no(DAY, (DAY, DAY, 0))
        self.no(DAY, (-1, 3, 0))
        self.no(DAY, (-1, -1, 0))
        self.no(DAY, (3, -1, 0))
        self.yes(DAY, (3, 4, 0))
        self.no(DAY, (3, 4, -1))
        self.no(1, (0, 1, 0))
        self.no(1, (1, 1, 0))
        self.no(10 ** 15, (0, 10 ** 15, 0))
        self.no(DAY, (-FAR, FAR, FAR))

    def test_parts_that_are_no_whole_numbers(self):
        for part in [True, False, None, "", "1", (1,), [1], [], ()]:
            self.no(DAY, (part, 1, 1))
            self.no(DAY, (0, part, 1))
            self.no(DAY, (0, 1, part))
            self.no(DAY, (part, part, part))

    def test_lengths_and_kinds(self):
        for thing in [(0,), (0, 1), (0, 1, 2, 3), [0, 1, 2], [(0, 1, 2)], ((0, 1, 2),), "012", "(0, 1, 2)"]:
            self.no(DAY, thing)

    def test_anything(self):
        for thing in JUNK + [[], [[]], [JUNK[-1]]]:
            for day in (1, DAY, 10 ** 15):
                self.no(day, thing)

    def test_all_small_ones(self):
        for day in (1, 2, 3):
            good = windows(day, [0, 1])
            for a in range(-2, 5):
                for b in range(-2, 5):
                    for c in range(-2, 2):
                        self.assertIs(is_window(day, (a, b, c)), (a, b, c) in good)


class TestIsBoard(unittest.TestCase):

    def yes(self, day, thing):
        self.assertIs(is_board(day, thing), True, (day, thing))

    def no(self, day, thing):
        self.assertIs(is_board(day, thing), False, (day, thing))

    def test_boards(self):
        self.yes(DAY, [])
        self.yes(DAY, [(3, 9, 2)])
        self.yes(DAY, [(15, 15, 1), (3, 9, 2)])
        self.yes(DAY, [(3, 9, 2), (3, 9, 2), (0, 23, 0), (5, 6, 9)])
        self.yes(1, [(0, 0, 5), (0, 0, 4)])
        self.yes(10 ** 15, [(k, k, 10 ** 30) for k in range(2000)])

    def test_a_tuple_is_no_board(self):
        self.no(DAY, ())
        self.no(DAY, ((3, 9, 2),))
        self.no(DAY, (3, 9, 2))

    def test_one_wrong_window_anywhere(self):
        good = (3, 9, 2)
        for wrong in JUNK + [[3, 9, 2], (3, 9), (3, 9, 2, 1), (9, 3, 2), (3, 24, 2), (-1, 3, 2), (3, 9, -1),
                             (True, 9, 2), (0, True, 2), (0, 9, False), [good]]:
            self.no(DAY, [wrong])
            self.no(DAY, [wrong, good])
            self.no(DAY, [good, wrong])
            self.no(DAY, [good, wrong, good])

    def test_anything(self):
        for thing in JUNK:
            self.no(DAY, thing)
        for thing in [[[]], [[[[]]]], [None], [0, 1, 2], ["(0, 1, 2)"]]:
            self.no(DAY, thing)

    def test_what_is_handed_in_stays(self):
        for thing in [[(15, 15, 1), (3, 9, 2)], [[3, 9, 2], (3, 9, 2)], [(3, [9], 2)], [], ([3], 9, 2)]:
            before = copy.deepcopy(thing)
            is_board(DAY, thing)
            is_window(DAY, thing)
            self.assertEqual(thing, before)

    def test_nothing_is_kept(self):
        board = [(3, 9, 2)]
        self.yes(DAY, board)
        board.append(None)
        self.no(DAY, board)
        board.pop()
        self.yes(DAY, board)
        self.no(9, board)


class TestOpen(unittest.TestCase):

    def asked(self, day, window, t, is_open, following, ahead):
        self.assertIs(open_at(day, window, t), is_open, (day, window, t))
        self.assertEqual(next_open(day, window, t), following, (day, window, t))
        self.assertEqual(last_open(day, window, t), ahead, (day, window, t))

    def test_some_moments(self):
        window = (3, 9, 2)
        self.asked(DAY, window, 0, False, 3, -15)
        self.asked(DAY, window, 2, False, 3, -15)
        self.asked(DAY, window, 3, True, 3, 3)
        self.asked(DAY, window, 6, True, 6, 6)
        self.asked(DAY, window, 9, True, 9, 9)
        self.asked(DAY, window, 10, False, 27, 9)
        self.asked(DAY, window, 23, False, 27, 9)
        self.asked(DAY, window, 24, False, 27, 9)
        self.asked(DAY, window, 27, True, 27, 27)

    def test_below_nought(self):
        window = (3, 9, 2)
        self.asked(DAY, window, -1, False, 3, -15)
        self.asked(DAY, window, -14, False, 3, -15)
        self.asked(DAY, window, -15, True, -15, -15)
        self.asked(DAY, window, -21, True, -21, -21)
        self.asked(DAY, window, -22, False, -21, -39)

    def test_one_moment(self):
        window = (15, 15, 1)
        self.asked(DAY, window, 14, False, 15, -9)
        self.asked(DAY, window, 15, True, 15, 15)
        self.asked(DAY, window, 16, False, 39, 15)

    def test_the_whole_day(self):
        for day in (1, 2, DAY, 10 ** 15):
            for t in (-FAR, -day, -1, 0, 1, day - 1, day, FAR):
                self.asked(day, (0, day - 1, 5), t, True, t, t)

    def test_far_out(self):
        for day in (3, 7, DAY, 10 ** 15 - 1, 10 ** 15):
            for a, b in ((0, 0), (day - 1, day - 1), (day // 3, day // 2), (0, day - 2), (1, day - 1)):
                for mark in (-FAR, FAR):
                    midnight = mark - mark % day
                    window = (a, b, 10 ** 30)
                    self.asked(day, window, midnight + a, True, midnight + a, midnight + a)
                    self.asked(day, window, midnight + b, True, midnight + b, midnight + b)
                    self.asked(day, window, midnight + a - 1, False, midnight + a, midnight + b - day)
                    self.asked(day, window, midnight + b + 1, False, midnight + a + day, midnight + b)

    def test_all_small_ones_moment_by_moment(self):
        for day in (1, 2, 3, 5):
            for window in windows(day, [0, 9]):
                for shift in (-FAR, 0, FAR):
                    for t in range(shift - 2 * day, shift + 2 * day + 1):
                        following = t
                        while not window[0] <= following % day <= window[1]:
                            following += 1
                        ahead = t
                        while not window[0] <= ahead % day <= window[1]:
                            ahead -= 1
                        self.asked(day, window, t, following == t, following, ahead)


if __name__ == "__main__":
    unittest.main()
