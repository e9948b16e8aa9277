import copy
import random
import unittest

from fordbook.clocks import come, is_clock, leave, set_off, standing
from samples import FAR, JUNK, boards, clocks, departures, long_clock, rises

DAY = 24


class TestIsClock(unittest.TestCase):

    def yes(self, day, thing):
        self.assertIs(is_clock(day, thing), True, (day, thing))

    def no(self, day, thing):
        self.assertIs(is_clock(day, thing), False, (day, thing))

    def test_clocks(self):
        self.yes(DAY, [])
        self.yes(1, [])
        self.yes(DAY, [(3, 9, 2)])
        self.yes(DAY, [(0, 23, 0)])
        self.yes(DAY, [(0, 23, 10 ** 30)])
        self.yes(DAY, [(3, 9, 2), (15, 15, 1)])
        self.yes(1, [(0, 0, 7)])
        self.yes(10 ** 15, long_clock(10 ** 15, 2000, 10 ** 30))

    def test_the_order_of_windows(self):
        self.no(DAY, [(15, 15, 1), (3, 9, 2)])
        self.no(DAY, [(3, 9, 2), (3, 9, 2)])
        self.no(DAY, [(3, 9, 2), (9, 12, 3)])
        self.yes(DAY, [(3, 9, 2), (10, 12, 3)])
        self.no(DAY, [(3, 9, 2), (4, 5, 7)])

    def test_later_departures_come_later(self):
        self.yes(DAY, [(3, 9, 5), (14, 15, 1)])
        self.no(DAY, [(3, 9, 5), (13, 15, 1)])
        self.no(DAY, [(3, 9, 5), (12, 15, 1)])
        self.yes(DAY, [(3, 9, 6), (14, 15, 2)])
        self.no(DAY, [(3, 9, 6), (14, 15, 1)])
        self.no(DAY, [(3, 9, 2), (14, 15, 9), (18, 20, 1)])
        self.yes(DAY, [(3, 9, 2), (14, 15, 3), (18, 20, 1)])

    def test_neighbours(self):
        self.no(DAY, [(3, 9, 2), (10, 12, 2)])
        self.yes(DAY, [(3, 9, 2), (10, 12, 3)])
        self.no(DAY, [(3, 9, 2), (10, 12, 1)])
        self.yes(DAY, [(3, 9, 2), (11, 12, 2)])
        self.no(DAY, [(3, 9, 0), (10, 12, 0)])

    def test_over_midnight(self):
        self.yes(DAY, [(3, 9, 2), (15, 20, 8)])
        self.no(DAY, [(3, 9, 2), (15, 20, 9)])
        self.no(DAY, [(3, 9, 2), (15, 20, 10)])
        self.no(DAY, [(3, 9, 1), (15, 20, 8)])
        self.no(DAY, [(2, 9, 2), (15, 20, 8)])
        self.no(DAY, [(3, 9, 2), (15, 21, 8)])

    def test_neighbours_over_midnight_may_be_alike(self):
        self.yes(DAY, [(0, 3, 2), (20, 23, 2)])
        self.yes(DAY, [(0, 3, 3), (20, 23, 2)])
        self.no(DAY, [(0, 3, 2), (20, 23, 3)])

    def test_one_window_is_always_a_clock(self):
        for day in (1, 2, DAY, 10 ** 15):
            for ride in (0, 1, day, 10 ** 30):
                self.yes(day, [(0, day - 1, ride)])
                self.yes(day, [(day - 1, day - 1, ride)])
                self.yes(day, [(0, 0, ride)])

    def test_what_is_no_board(self):
        good = (3, 9, 2)
        for wrong in [(9, 3, 2), (3, 24, 2), (-1, 9, 2), (3, 9, -1), (3, 9), (3, 9, 2, 0), [3, 9, 2], None, "", 5,
                      (False, 9, 2), (0, True, 2), (3, 9, True), True, [good], [], ()]:
            self.no(DAY, [wrong])
            self.no(DAY, [wrong, (15, 15, 1)])
            self.no(DAY, [(0, 0, 2), wrong])
        self.yes(DAY, [(3, 23, 2)])
        self.no(DAY, (good,))
        self.no(DAY, ())

    def test_anything(self):
        for thing in JUNK:
            self.no(DAY, thing)
            self.no(DAY, [thing])

    def test_all_small_boards(self):
        for day, rides, most in ((1, range(3), 3), (2, range(5), 3), (3, range(5), 3), (4, range(7), 2)):
            for board in boards(day, rides, most):
                self.assertIs(is_clock(day, board), rises(day, board), (day, board))

    def test_long_ones_broken_just_barely(self):
        clock = long_clock(10 ** 15, 2000, 10 ** 30)
        for k in (0, 1, 999, 1998, 1999):
            a, b, c = clock[k]
            following = clock[k + 1] if k < 1999 else (clock[0][0] + 10 ** 15, 0, clock[0][2])
            most = following[0] + following[2] - b - 1
            self.yes(10 ** 15, clock[:k] + [(a, b, most)] + clock[k + 1:])
            self.no(10 ** 15, clock[:k] + [(a, b, most + 1)] + clock[k + 1:])

    def test_what_is_handed_in_stays(self):
        for thing in [[(3, 9, 2), (15, 15, 1)], [(15, 15, 1), (3, 9, 2)], [[3, 9, 2]], [(3, [9], 2)], []]:
            before = copy.deepcopy(thing)
            is_clock(DAY, thing)
            self.assertEqual(thing, before)


class TestSettingOff(unittest.TestCase):
    clock = [(3, 9, 2), (15, 15, 1)]

    def test_before_in_between_and_behind(self):
        for t, x, y in ((0, 3, 5), (2, 3, 5), (3, 3, 5), (6, 6, 8), (9, 9, 11), (10, 15, 16), (14, 15, 16),
                        (15, 15, 16), (16, 27, 29), (23, 27, 29), (24, 27, 29), (28, 28, 30)):
            self.assertEqual(set_off(DAY, self.clock, t), (x, y), t)
            self.assertEqual(come(DAY, self.clock, t), y, t)

    def test_below_nought(self):
        for t, x, y in ((-1, 3, 5), (-8, 3, 5), (-9, -9, -8), (-10, -9, -8), (-15, -15, -13), (-21, -21, -19),
                        (-22, -21, -19), (-24, -21, -19), (-33, -33, -32)):
            self.assertEqual(set_off(DAY, self.clock, t), (x, y), t)
            self.assertEqual(come(DAY, self.clock, t), y, t)

    def test_leaving(self):
        for s, x in ((4, -9), (5, 3), (6, 4), (11, 9), (12, 9), (15, 9), (16, 15), (17, 15), (28, 15), (29, 27),
                     (-8, -9), (-9, -15), (-12, -15), (-19, -21), (-20, -33)):
            self.assertEqual(leave(DAY, self.clock, s), x, s)

    def test_rides_of_many_days(self):
        clock = [(3, 9, 100), (15, 15, 99)]
        self.assertEqual(set_off(DAY, clock, 0), (3, 103))
        self.assertEqual(set_off(DAY, clock, 10), (15, 114))
        self.assertEqual(set_off(DAY, clock, 16), (27, 127))
        self.assertEqual(leave(DAY, clock, 102), -9)
        self.assertEqual(leave(DAY, clock, 103), 3)
        self.assertEqual(leave(DAY, clock, 0), -105)

    def test_never(self):
        for day in (1, DAY, 10 ** 15):
            for t in (-FAR, -1, 0, 1, FAR):
                self.assertIsNone(set_off(day, [], t))
                self.assertIsNone(come(day, [], t))
                self.assertIsNone(leave(day, [], t))

    def test_coming_over_midnight(self):
        clock = [(3, 9, 2), (15, 20, 8)]
        self.assertEqual(leave(DAY, clock, 28), 20)
        self.assertEqual(leave(DAY, clock, 29), 27)
        self.assertEqual(leave(DAY, clock, 24), 16)
        self.assertEqual(leave(DAY, clock, 4), -4)
        self.assertEqual(leave(DAY, clock, 3), -5)
        self.assertEqual(leave(DAY, clock, 5), 3)

    def test_kinds(self):
        self.assertIs(type(set_off(DAY, self.clock, 0)), tuple)
        self.assertIs(type(come(DAY, self.clock, 0)), int)
        self.assertIs(type(leave(DAY, self.clock, 0)), int)

    def compare(self, day, clock, low, high):
        longest = max([c for a, b, c in clock])
        row = departures(day, clock, low - longest - 2 * day, high + 2 * day)
        for t in range(low, high + 1):
            first = min(pair for pair in row if pair[0] >= t)
            self.assertEqual(set_off(day, clock, t), first, (day, clock, t))
            self.assertEqual(come(day, clock, t), first[1], (day, clock, t))
            last = max(x for x, y in row if y <= t)
            self.assertEqual(leave(day, clock, t), last, (day, clock, t))

    def test_all_small_clocks_moment_by_moment(self):
        for day, rides, most in ((1, range(4), 1), (2, range(6), 2), (3, range(8), 3), (4, range(5), 2)):
            for clock in clocks(day, rides, most):
                if clock:
                    self.compare(day, clock, -2 * day, 2 * day)

    def test_drawn_clocks_moment_by_moment(self):
        source = random.Random(20)
        for day in (7, 12, 24):
            found = 0
            while found < 40:
                cuts = sorted(source.sample(range(day), source.randint(1, 3) * 2))
                clock = [(a, b, source.randint(0, day)) for a, b in zip(cuts[::2], cuts[1::2])]
                if rises(day, clock):
                    self.compare(day, clock, -day - 3, day + 3)
                    found += 1

    def test_one_comes_by_s_just_where_one_leaves_no_later(self):
        for day, rides, most in ((1, range(3), 1), (3, range(5), 3)):
            for clock in clocks(day, rides, most):
                for s in range(-day, 2 * day) if clock else ():
                    latest = leave(day, clock, s)
                    self.assertLessEqual(come(day, clock, latest), s)
                    for t in range(s - 3 * day - 5, s + 2):
                        self.assertEqual(come(day, clock, t) <= s, t <= latest, (day, clock, t, s))

    def test_far_out_all_is_days_later(self):
        for day, clock in ((DAY, self.clock), (3, [(0, 0, 4), (1, 1, 5)]), (10 ** 15, [(5, 10 ** 14, 10 ** 30)])):
            for mark in (-FAR, FAR):
                midnight = mark - mark % day
                for t in list(range(-30, 31)) + [10 ** 14 - 1, 10 ** 14, 10 ** 14 + 1]:
                    x, y = set_off(day, clock, t)
                    self.assertEqual(set_off(day, clock, t + midnight), (x + midnight, y + midnight))
                    self.assertEqual(come(day, clock, t + midnight), y + midnight)
                    self.assertEqual(leave(day, clock, t + midnight), leave(day, clock, t) + midnight)

    def test_long_clocks_with_great_rides(self):
        for day, count, ride in ((10 ** 15, 2000, 10 ** 30), (10 ** 15 - 1, 1999, 10 ** 30), (30000, 2000, 10 ** 15)):
            clock = long_clock(day, count, ride)
            self.assertIs(is_clock(day, clock), True)
            for k, (a, b, c) in enumerate(clock):
                shift = day * (-10 ** 25 if k % 2 else 10 ** 25)
                na, nc = (clock[k + 1][0], clock[k + 1][2]) if k + 1 < count else (day + clock[0][0], clock[0][2])
                for x in (a, (a + b) // 2, b):
                    self.assertEqual(set_off(day, clock, shift + x), (shift + x, shift + x + c))
                    self.assertEqual(leave(day, clock, shift + x + c), shift + x)
                self.assertEqual(set_off(day, clock, shift + b + 1), (shift + na, shift + na + nc))
                self.assertEqual(come(day, clock, shift + na - 1), shift + na + nc)
                self.assertEqual(leave(day, clock, shift + b + c + 1), shift + (b if na + nc > b + c + 1 else na))
                self.assertEqual(leave(day, clock, shift + na + nc - 1), shift + b)

    def test_nothing_is_changed_or_kept(self):
        clock = [(3, 9, 2), (15, 15, 1)]
        for told in (set_off, come, leave):
            told(DAY, clock, 12)
            self.assertEqual(clock, [(3, 9, 2), (15, 15, 1)])
        self.assertEqual(come(DAY, clock, 12), 16)
        clock.pop()
        self.assertEqual(come(DAY, clock, 12), 29)
        self.assertEqual(leave(DAY, clock, 20), 9)
        self.assertEqual(set_off(DAY, clock, 12), (27, 29))


class TestStanding(unittest.TestCase):

    def test_the_one_window(self):
        for day in (1, 2, DAY, 10 ** 15):
            self.assertEqual(standing(day), [(0, day - 1, 0)])
            self.assertIs(is_clock(day, standing(day)), True)

    def test_whoever_leaves_is_there(self):
        for day in (1, 2, DAY, 10 ** 15):
            for t in (-FAR, -day, -1, 0, 1, day - 1, day, FAR):
                self.assertEqual(set_off(day, standing(day), t), (t, t))
                self.assertEqual(come(day, standing(day), t), t)
                self.assertEqual(leave(day, standing(day), t), t)

    def test_a_new_list_each_time(self):
        one = standing(DAY)
        other = standing(DAY)
        self.assertIsNot(one, other)
        one.append("mine")
        one[0] = None
        self.assertEqual(other, [(0, 23, 0)])
        self.assertEqual(standing(DAY), [(0, 23, 0)])
        self.assertEqual(come(DAY, standing(DAY), 5), 5)


if __name__ == "__main__":
    unittest.main()
