import random
import unittest

from fordbook.clocks import come, is_clock, standing
from fordbook.waits import longest, sum_of
from samples import clocks, drawn_clock, long_clock, told_by

DAY = 24


class TestWaits(unittest.TestCase):

    def right(self, day, clock):
        waits = [told_by(day, clock, t) - t for t in range(day)]
        self.assertEqual(longest(day, clock), (waits.index(max(waits)), max(waits)), (day, clock))
        self.assertEqual(sum_of(day, clock), sum(waits), (day, clock))

    def test_some(self):
        ferry = [(3, 9, 2), (15, 15, 1)]
        self.assertEqual(longest(DAY, ferry), (16, 13))
        self.assertEqual(sum_of(DAY, ferry), 5 + 4 + 3 + 7 * 2 + 6 + 5 + 4 + 3 + 2 + 1 + sum(range(6, 14)))
        self.assertIs(type(longest(DAY, ferry)), tuple)

    def test_the_first_of_several(self):
        self.assertEqual(longest(DAY, [(5, 5, 1), (11, 11, 1), (17, 17, 1), (23, 23, 1)]), (0, 6))
        self.assertEqual(longest(DAY, [(0, 0, 1), (6, 6, 1), (12, 12, 1), (18, 18, 1)]), (1, 6))
        self.assertEqual(longest(DAY, [(0, 23, 7)]), (0, 7))
        self.assertEqual(longest(DAY, [(0, 9, 2)]), (10, 16))
        self.assertEqual(longest(DAY, [(0, 9, 6), (10, 12, 7), (14, 23, 6)]), (10, 7))
        self.assertEqual(longest(DAY, [(0, 9, 2), (14, 20, 5)]), (10, 9))

    def test_over_midnight(self):
        self.assertEqual(longest(DAY, [(2, 9, 2)]), (10, 18))
        self.assertEqual(longest(DAY, [(2, 9, 2), (14, 20, 3)]), (10, 7))
        self.assertEqual(longest(DAY, [(9, 9, 2), (14, 20, 3)]), (21, 14))
        self.assertEqual(longest(DAY, [(0, 20, 0)]), (21, 3))

    def test_standing_and_never(self):
        for day in (1, 2, DAY, 10 ** 15):
            self.assertEqual(longest(day, standing(day)), (0, 0))
            self.assertEqual(sum_of(day, standing(day)), 0)
            self.assertIsNone(longest(day, []))
            self.assertIsNone(sum_of(day, []))

    def test_a_day_of_one_moment(self):
        for ride in (0, 1, 7, 10 ** 30):
            self.assertEqual(longest(1, [(0, 0, ride)]), (0, ride))
            self.assertEqual(sum_of(1, [(0, 0, ride)]), ride)

    def test_all_small_clocks(self):
        for day, rides, most in ((1, range(4), 1), (2, range(6), 2), (3, range(8), 3), (4, range(6), 2)):
            for clock in clocks(day, rides, most):
                if clock:
                    self.right(day, clock)

    def test_drawn_clocks(self):
        source = random.Random(17)
        for day, ride in ((7, 5), (12, 40), (24, 20), (41, 60)) * 25:
            clock = drawn_clock(source, day, 6, ride)
            if clock:
                self.right(day, clock)

    def test_great_days(self):
        day = 10 ** 15
        ride = 10 ** 30
        self.assertEqual(longest(day, [(0, day - 1, ride)]), (0, ride))
        self.assertEqual(sum_of(day, [(0, day - 1, ride)]), day * ride)
        self.assertEqual(longest(day, [(5, 5, ride)]), (6, day - 1 + ride))
        self.assertEqual(sum_of(day, [(5, 5, ride)]), day * ride + day * (day - 1) // 2)
        self.assertEqual(sum_of(day, [(5, day - 3, ride)]), day * ride + 15 + 7 + 6)

    def test_great_clocks(self):
        day = 10 ** 15
        clock = long_clock(day, 2000, 10 ** 30)
        self.assertIs(is_clock(day, clock), True)
        starts = [0] + [b + 1 for a, b, c in clock] + [a for a, b, c in clock]
        waits = sorted([(come(day, clock, t) - t, -t) for t in starts])
        self.assertEqual(longest(day, clock), (-waits[-1][1], waits[-1][0]))
        total = 0
        for k, (a, b, c) in enumerate(clock):
            total += c * (b - a + 1)
            end = clock[k + 1][0] if k < 1999 else day + clock[0][0]
            reach = clock[k + 1][2] if k < 1999 else clock[0][2]
            gap = end - b - 1
            total += gap * reach + gap * (gap + 1) // 2
        self.assertEqual(sum_of(day, clock), total)

    def test_what_is_handed_in_stays(self):
        clock = [(3, 9, 2), (15, 15, 1)]
        for asked, told in ((longest, (16, 13)), (sum_of, 123)):
            self.assertEqual(asked(DAY, clock), told)
            self.assertEqual(clock, [(3, 9, 2), (15, 15, 1)])
        clock.pop()
        self.assertEqual(longest(DAY, clock), (10, 19))


if __name__ == "__main__":
    unittest.main()
