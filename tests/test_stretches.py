import random
import unittest

from fordbook.clocks import come, standing
from fordbook.stretches import stretches
from samples import clocks, drawn_clock, long_clock

DAY = 24


class TestStretches(unittest.TestCase):

    def whole(self, day, clock):
        """What holds for the stretches of every clock but never."""
        rows = stretches(day, clock)
        self.assertEqual(rows[0][0], 0)
        self.assertEqual(rows[-1][1], day - 1)
        for one, other in zip(rows, rows[1:]):
            self.assertEqual(other[0], one[1] + 1)
            self.assertFalse(one[2] and other[2], rows)
        for row in rows:
            self.assertIs(type(row), tuple)
            self.assertLessEqual(row[0], row[1])
            self.assertIs(type(row[2]), bool)
        self.assertEqual([(p, q, v) for p, q, still, v in rows if not still], clock)
        return rows

    def test_ahead_between_and_behind(self):
        self.assertEqual(stretches(DAY, [(3, 9, 2), (15, 15, 1)]), [
            (0, 2, True, 5), (3, 9, False, 2), (10, 14, True, 16), (15, 15, False, 1), (16, 23, True, 29)])

    def test_windows_that_touch(self):
        self.assertEqual(stretches(DAY, [(3, 9, 2), (10, 12, 5)]), [
            (0, 2, True, 5), (3, 9, False, 2), (10, 12, False, 5), (13, 23, True, 29)])

    def test_a_first_one_from_nought_and_a_last_one_to_midnight(self):
        self.assertEqual(stretches(DAY, [(0, 4, 2), (20, 22, 1)]), [
            (0, 4, False, 2), (5, 19, True, 21), (20, 22, False, 1), (23, 23, True, 26)])
        self.assertEqual(stretches(DAY, [(1, 4, 2), (20, 23, 1)]), [
            (0, 0, True, 3), (1, 4, False, 2), (5, 19, True, 21), (20, 23, False, 1)])
        self.assertEqual(stretches(DAY, [(0, 4, 2), (20, 23, 1)]), [
            (0, 4, False, 2), (5, 19, True, 21), (20, 23, False, 1)])

    def test_one_window(self):
        self.assertEqual(stretches(DAY, [(7, 7, 100)]), [(0, 6, True, 107), (7, 7, False, 100), (8, 23, True, 131)])
        self.assertEqual(stretches(DAY, [(0, 23, 3)]), [(0, 23, False, 3)])
        self.assertEqual(stretches(DAY, standing(DAY)), [(0, 23, False, 0)])

    def test_a_day_of_one_moment(self):
        self.assertEqual(stretches(1, [(0, 0, 0)]), [(0, 0, False, 0)])
        self.assertEqual(stretches(1, [(0, 0, 7)]), [(0, 0, False, 7)])

    def test_never(self):
        for day in (1, DAY, 10 ** 15):
            self.assertEqual(stretches(day, []), [])

    def test_they_tell_what_the_clock_tells(self):
        source = random.Random(1)
        drawn = [(day, drawn_clock(source, day, 5, ride)) for day, ride in ((7, 5), (12, 40), (24, 20)) * 20]
        small = [(day, clock) for day in (1, 2, 3) for clock in clocks(day, range(6), 3)]
        for day, clock in drawn + small:
            if not clock:
                continue
            for p, q, still, v in self.whole(day, clock):
                for x in range(p, q + 1):
                    self.assertEqual(v if still else x + v, come(day, clock, x), (day, clock, x))

    def test_great_ones(self):
        for day, count in ((10 ** 15, 2000), (30000, 2000)):
            clock = long_clock(day, count, 10 ** 30)
            for p, q, still, v in self.whole(day, clock):
                for x in (p, q):
                    self.assertEqual(v if still else x + v, come(day, clock, x))

    def test_nothing_is_changed_or_kept(self):
        clock = [(3, 9, 2), (15, 15, 1)]
        told = stretches(DAY, clock)
        again = list(told)
        self.assertEqual(clock, [(3, 9, 2), (15, 15, 1)])
        clock.pop()
        self.assertEqual(told, again)
        told.clear()
        clock.append((15, 15, 1))
        self.assertEqual(stretches(DAY, clock), again)
        stretches(DAY, []).append("mine")
        self.assertEqual(stretches(DAY, []), [])


if __name__ == "__main__":
    unittest.main()
