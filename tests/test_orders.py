import random
import unittest

from fordbook.clocks import come, standing
from fordbook.orders import first_later, no_later
from fordbook.reckon import clock_of, later, sooner
from samples import clocks, drawn_clock, great_board, long_clock, told_by

DAY = 24


class TestOrders(unittest.TestCase):

    def asked(self, day, one, other, found):
        self.assertEqual(first_later(day, one, other), found, (day, one, other))
        self.assertIs(no_later(day, one, other), found is None, (day, one, other))

    def right(self, day, one, other):
        found = None
        for t in range(day - 1, -1, -1):
            first = told_by(day, one, t)
            second = told_by(day, other, t)
            if second is not None and (first is None or first > second):
                found = t
        self.asked(day, one, other, found)

    def test_equal_clocks(self):
        for clock in ([(3, 9, 2), (15, 15, 1)], standing(DAY), [(0, 23, 100)]):
            self.asked(DAY, clock, list(clock), None)

    def test_never(self):
        self.asked(DAY, [], [], None)
        for clock in ([(3, 9, 2), (15, 15, 1)], standing(DAY), [(23, 23, 10 ** 30)]):
            self.asked(DAY, [], clock, 0)
            self.asked(DAY, clock, [], None)

    def test_at_the_ends_of_stretches(self):
        ferry = [(3, 9, 2), (15, 15, 1)]
        self.asked(DAY, ferry, [(3, 8, 2), (15, 15, 1)], None)
        self.asked(DAY, [(3, 8, 2), (15, 15, 1)], ferry, 9)
        self.asked(DAY, [(4, 9, 2), (15, 15, 1)], ferry, 0)
        self.asked(DAY, [(3, 9, 2)], ferry, 10)
        self.asked(DAY, [(3, 9, 2), (14, 14, 2)], ferry, 15)
        self.asked(DAY, [(3, 9, 2), (16, 16, 0)], ferry, None)
        self.asked(DAY, [(3, 9, 2), (15, 15, 2)], ferry, 10)
        self.asked(DAY, [(3, 9, 2), (15, 15, 1), (23, 23, 6)], ferry, None)
        self.asked(DAY, [(3, 9, 2), (15, 15, 1), (23, 23, 4)], ferry, None)
        self.asked(DAY, ferry, [(3, 9, 2), (15, 15, 1), (23, 23, 5)], 16)

    def test_who_rides_against_who_waits(self):
        self.asked(DAY, [(0, 23, 4)], [(10, 10, 2)], 9)
        self.asked(DAY, [(0, 23, 2)], [(10, 10, 2)], None)
        self.asked(DAY, [(0, 23, 3)], [(10, 10, 2)], 10)
        self.asked(DAY, [(10, 10, 2)], [(0, 23, 2)], 0)
        self.asked(DAY, [(10, 10, 2)], [(0, 23, 12)], 11)
        self.asked(DAY, [(10, 10, 2)], [(0, 23, 25)], None)
        self.asked(DAY, [(10, 10, 2)], [(0, 23, 24)], 11)
        self.asked(DAY, [(0, 23, 12)], [(0, 0, 12), (23, 23, 2)], 14)

    def test_only_within_the_first_day(self):
        self.asked(DAY, [(0, 22, 0)], standing(DAY), 23)
        self.asked(DAY, [(1, 23, 0)], standing(DAY), 0)
        self.asked(1, [(0, 0, 5)], [(0, 0, 4)], 0)
        self.asked(1, [(0, 0, 4)], [(0, 0, 5)], None)

    def test_all_small_clocks(self):
        for day, rides, most in ((1, range(4), 1), (2, range(5), 2), (3, range(5), 3)):
            found = clocks(day, rides, most)
            for one in found:
                for other in found:
                    self.right(day, one, other)

    def test_drawn_clocks(self):
        source = random.Random(12)
        for day, ride in ((5, 8), (12, 6), (24, 30)) * 30:
            one = drawn_clock(source, day, 6, ride)
            other = drawn_clock(source, day, 6, ride)
            self.right(day, one, other)
            self.right(day, sooner(day, one, other), one)
            self.right(day, later(day, one, other), one)
            self.assertIs(no_later(day, sooner(day, one, other), one), True)
            self.assertIs(no_later(day, one, later(day, one, other)), True)

    def test_great_clocks(self):
        source = random.Random(13)
        day = 10 ** 15
        clock = long_clock(day, 2000, 10 ** 30)
        for k in (0, 1, 1000, 1999):
            a, b, c = clock[k]
            later_one = clock[:k] + [(a, b, c + 1)] + clock[k + 1:]
            self.asked(day, later_one, clock, 0 if k == 0 else clock[k - 1][1] + 1)
            self.asked(day, clock, later_one, None)
            self.asked(day, clock[:k] + [(a, b - 1, c)] + clock[k + 1:], clock, b)
            self.asked(day, clock[:k] + clock[k + 1:], clock, 0 if k == 0 else clock[k - 1][1] + 1)
        one = clock_of(day, great_board(source, day, 2000, 10 ** 30))
        other = clock_of(day, great_board(source, day, 2000, 10 ** 30))
        for first, second in ((one, other), (other, one), (one, sooner(day, one, other))):
            t = first_later(day, first, second)
            if t is not None:
                self.assertGreater(come(day, first, t), come(day, second, t))
                self.assertTrue(t == 0 or come(day, first, t - 1) <= come(day, second, t - 1))

    def test_what_is_handed_in_stays(self):
        one = [(3, 9, 2), (15, 15, 1)]
        other = [(4, 9, 2)]
        for asked in (first_later, no_later):
            asked(DAY, one, other)
            asked(DAY, other, one)
            self.assertEqual((one, other), ([(3, 9, 2), (15, 15, 1)], [(4, 9, 2)]))
        self.asked(DAY, other, one, 0)
        other[0] = (3, 9, 2)
        self.asked(DAY, other, one, 10)


if __name__ == "__main__":
    unittest.main()
