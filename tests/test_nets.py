import copy
import unittest

from fordbook.nets import is_net
from samples import FAR, JUNK

DAY = 24
FERRY = (0, 1, [(3, 9, 2), (15, 15, 1)])


class TestIsNet(unittest.TestCase):

    def yes(self, day, size, roads):
        self.assertIs(is_net(day, size, roads), True, (day, size, roads))

    def no(self, day, size, roads):
        before = copy.deepcopy((size, roads))
        self.assertIs(is_net(day, size, roads), False, (day, size, roads))
        self.assertEqual((size, roads), before)

    def test_nets(self):
        self.yes(DAY, 2, [FERRY])
        self.yes(DAY, 3, [FERRY, (1, 2, []), (2, 0, [(0, 23, 10 ** 15)])])
        self.yes(1, 1, [(0, 0, [(0, 0, 1)])])
        self.yes(10 ** 15, 8, [(k % 8, 7, [(0, 10 ** 15 - 1, 10 ** 15)] * 2) for k in range(12)])

    def test_no_roads(self):
        for size in (1, 2, 8, 9, FAR):
            self.yes(DAY, size, [])

    def test_from_a_place_to_itself_and_two_alike(self):
        self.yes(DAY, 2, [(1, 1, [(3, 9, 2)])])
        self.yes(DAY, 2, [FERRY, FERRY])
        self.yes(DAY, 2, [FERRY, (0, 1, [])])
        self.yes(DAY, 2, [FERRY, (1, 0, [(3, 9, 2), (3, 9, 2)])])

    def test_sizes_that_are_none(self):
        for size in [0, -1, -FAR, True, False, None, "", "2", "abc", (), (2,), [], [2]] + JUNK[:3]:
            self.no(DAY, size, [])
            self.no(DAY, size, [(0, 0, [])])
            self.no(DAY, size, JUNK)

    def test_roads_that_are_no_list(self):
        for thing in JUNK:
            self.no(DAY, 2, thing)
            self.no(DAY, 2, [thing])
            self.no(DAY, 2, [FERRY, thing])
        self.no(DAY, 2, (FERRY,))
        self.no(DAY, 2, ())
        self.no(DAY, 2, FERRY)

    def wrong(self, road):
        self.no(DAY, 2, [road])
        self.no(DAY, 2, [road, FERRY])
        self.no(DAY, 2, [FERRY, road])

    def test_roads_that_are_none(self):
        self.wrong(list(FERRY))
        self.wrong([FERRY])
        self.wrong((FERRY,))
        self.wrong((0, 1))
        self.wrong(FERRY + (0,))
        self.wrong((0, 1, [], []))
        self.wrong(())

    def test_places_that_are_none(self):
        for place in [2, -1, 10 ** 30, True, False, None, "", "0", (0,), [0], [], ()]:
            self.wrong((place, 1, []))
            self.wrong((0, place, []))
            self.wrong((0, place, [(3, 9, 2)]))
        self.yes(DAY, 3, [(2, 0, []), (0, 2, [])])
        self.no(DAY, 1, [FERRY])

    def test_boards_that_are_none(self):
        for board in [None, (), ((3, 9, 2),), "", 0, True, (3, 9, 2), [None], [[3, 9, 2]], [(3, 9)], [(3, 9, 2, 1)],
                      [(9, 3, 2)], [(3, 24, 2)], [(-1, 3, 2)], [(3, 9, -1)], [(3, 9, True)], [(False, 9, 2)],
                      [(3, 9, 2), None], [[]], [[(3, 9, 2)]]]:
            self.wrong((0, 1, board))

    def test_rides_of_nought(self):
        self.wrong((0, 1, [(3, 9, 0)]))
        self.wrong((0, 1, [(3, 9, 2), (0, 23, 0)]))
        self.wrong((1, 1, [(0, 0, 0)]))
        self.yes(DAY, 2, [(0, 1, [(3, 9, 1)])])

    def test_nothing_is_kept(self):
        board = [(3, 9, 2)]
        roads = [(0, 1, board)]
        self.yes(DAY, 2, roads)
        board.append((3, 9, 0))
        self.no(DAY, 2, roads)
        board.pop()
        self.yes(DAY, 2, roads)
        self.no(9, 2, roads)


if __name__ == "__main__":
    unittest.main()
