import copy
import random
import unittest

from fordbook.errors import FordError, NoText
from fordbook.nets import is_net
from fordbook.texts import read_net, show_net
from samples import JUNK
from slow_nets import apart_and_own, drawn_nets

TEXT = "day 24; quay>ness 3-9+2 15+1; ness>quay"
TOLD = (24, ["quay", "ness"], [(0, 1, [(3, 9, 2), (15, 15, 1)]), (1, 0, [])])
NAMES = ["quay", "ness", "mill", "a", "zzzzzzzz", "b", "c", "d"]

# What is no text of a net, each for another cause.
WRONG = [
    # The day.
    "", " ", "day", "day ", "24", "day24", "Day 24", "DAY 24", "days 24", "day 0", "day 00", "day 024", "day -1",
    "day +1", "day 1000000000000001", "day 10000000000000000", "day x", "day 2 4", "day  24", " day 24", "day 24 ",
    "day 24\n", "\nday 24", "day\t24", "day 24.", "day 1_000", "day 0x1", "day 1e3", "night 24", "a>b 3+1", "; a>b",
    # Between roads.
    "day 24;", "day 24; ", "day 24 ;", "day 24;a>b", "day 24;  a>b", "day 24 ; a>b", "day 24; a>b;", "day 24; a>b; ",
    "day 24; a>b;c>d", "day 24; a>b ; c>d", "day 24;; a>b", "day 24; ; a>b", "day 24, a>b", "day 24 a>b",
    "day 24; a>b;  c>d", "day 24;\na>b", "day 24;\ta>b", "day 24; a>b\n", "day 24; day 24",
    # Names.
    "day 24; a", "day 24; a>", "day 24; >b", "day 24; >", "day 24; a>b>c", "day 24; a>>b", "day 24; a<b", "day 24; a-b",
    "day 24; a >b", "day 24; a> b", "day 24; a > b", "day 24; A>b", "day 24; a>B", "day 24; quAy>b", "day 24; a1>b",
    "day 24; a>b1", "day 24; a_>b", "day 24; abcdefghi>b", "day 24; a>abcdefghi", "day 24; a.b>c", "day 24; 3-9+2",
    # Windows.
    "day 24; a>b ", "day 24; a>b  3+1", "day 24; a>b 3+1 ", "day 24; a>b 3+1  4+1", "day 24; a>b 3", "day 24; a>b 3-9",
    "day 24; a>b 3+", "day 24; a>b +1", "day 24; a>b 3-+1", "day 24; a>b -9+1", "day 24; a>b 3-9+", "day 24; a>b 3--9+1",
    "day 24; a>b 3-9++1", "day 24; a>b 3-9+1+1", "day 24; a>b 3-9-10+1", "day 24; a>b 3+9-2", "day 24; a>b 3 - 9+1",
    "day 24; a>b 3-9 +1", "day 24; a>b 9-3+1", "day 24; a>b 9-9+1", "day 24; a>b 0-0+1", "day 24; a>b 3-24+1",
    "day 24; a>b 24+1", "day 24; a>b 24-30+1", "day 24; a>b 03+1", "day 24; a>b 3-09+1", "day 24; a>b 3+01",
    "day 24; a>b 00+1", "day 24; a>b 3+0", "day 24; a>b 3-9+0", "day 24; a>b 3+00", "day 24; a>b -3+1",
    "day 24; a>b 3+-1", "day 24; a>b 3+1000000000000001", "day 24; a>b 3+9999999999999999",
    "day 24; a>b 3+10000000000000000", "day 24; a>b 00000000000000003+1", "day 24; a>b x+1", "day 24; a>b 3-x+1",
    "day 24; a>b 3+x", "day 24; a>b (3, 9, 2)", "day 24; a>b 3+1,", "day 24; a>b 3+1; ", "day 24; a>b 3+1\n",
    "day 24; a>b\t3+1", "day 24; a>b 3+1\t4+1", "day 1; a>b 1+1", "day 1; a>b 0-1+1", "day 24; a>b a>b", "day 24; a>b >",
    "day 24; a>b 3+" + "1" * 17, "day 24; a>b " + "1" * 5000 + "+1", "day " + "1" * 5000, "day 24; " + "a" * 5000 + ">b",
]


class TestReadNet(unittest.TestCase):

    def test_the_one_of_the_document(self):
        self.assertEqual(read_net(TEXT), TOLD)
        self.assertIs(type(read_net(TEXT)), tuple)

    def test_no_roads(self):
        self.assertEqual(read_net("day 24"), (24, [], []))
        self.assertEqual(read_net("day 1"), (1, [], []))
        self.assertEqual(read_net("day 1000000000000000"), (10 ** 15, [], []))
        self.assertEqual(read_net("day 999999999999999"), (10 ** 15 - 1, [], []))

    def test_roads_without_windows(self):
        self.assertEqual(read_net("day 5; a>a"), (5, ["a"], [(0, 0, [])]))
        self.assertEqual(read_net("day 5; a>b; b>a; a>b"), (5, ["a", "b"], [(0, 1, []), (1, 0, []), (0, 1, [])]))

    def test_places_in_the_order_in_which_their_names_first_come(self):
        self.assertEqual(read_net("day 5; mill>ness; quay>mill; ash>ness; ness>elm"), (
            5, ["mill", "ness", "quay", "ash", "elm"], [(0, 1, []), (2, 0, []), (3, 1, []), (1, 4, [])]))

    def test_names(self):
        for name in ("a", "z", "day", "never", "abcdefgh", "zzzzzzzz"):
            self.assertEqual(read_net(f"day 5; {name}>b"), (5, [name, "b"], [(0, 1, [])]))
            self.assertEqual(read_net(f"day 5; b>{name} 1+1"), (5, ["b", name], [(0, 1, [(1, 1, 1)])]))

    def test_windows(self):
        self.assertEqual(read_net("day 24; a>b 0+1")[2][0][2], [(0, 0, 1)])
        self.assertEqual(read_net("day 24; a>b 0-1+1")[2][0][2], [(0, 1, 1)])
        self.assertEqual(read_net("day 24; a>b 23+10")[2][0][2], [(23, 23, 10)])
        self.assertEqual(read_net("day 24; a>b 0-23+1000000000000000")[2][0][2], [(0, 23, 10 ** 15)])
        self.assertEqual(read_net("day 24; a>b 9+1 3-9+1 9+1")[2][0][2], [(9, 9, 1), (3, 9, 1), (9, 9, 1)])
        self.assertEqual(read_net("day 1; a>b 0+7")[2][0][2], [(0, 0, 7)])
        great = "day 1000000000000000; a>b 999999999999998-999999999999999+1"
        self.assertEqual(read_net(great)[2][0][2], [(10 ** 15 - 2, 10 ** 15 - 1, 1)])

    def test_what_is_none(self):
        for text in WRONG:
            for caught in (NoText, FordError, ValueError):
                with self.assertRaises(caught, msg=repr(text)):
                    read_net(text)

    def test_no_text(self):
        for thing in JUNK + [[], [TEXT], (TEXT,), [[TEXT]], TOLD, list(TOLD), 24]:
            before = copy.deepcopy(thing)
            with self.assertRaises(NoText, msg=repr(thing)):
                read_net(thing)
            self.assertEqual(thing, before)

    def test_one_sign_more_fewer_or_other(self):
        """Whatever is still read is shown as the same text again: there is one way to write a net."""
        signs = "0159-+;> \tazAZday\n_~%"
        for text in (TEXT, "day 10; a>b 0-9+10 9+1; b>b 0+1"):
            for place in range(len(text) + 1):
                near = [text[:place] + text[place + 1:]]
                near += [text[:place] + sign + text[place:] for sign in signs]
                near += [text[:place] + sign + text[place + 1:] for sign in signs]
                for other in near:
                    try:
                        told = read_net(other)
                    except NoText:
                        continue
                    self.assertEqual(show_net(*told), other)
                    if told[1]:
                        self.assertIs(is_net(told[0], len(told[1]), told[2]), True, other)

    def test_a_new_one_each_time(self):
        told = read_net(TEXT)
        apart_and_own(self, told, read_net(TEXT))
        told[1].append("mine")
        told[2][0][2].clear()
        told[2].pop()
        self.assertEqual(read_net(TEXT), TOLD)


class TestShowNet(unittest.TestCase):

    def test_some(self):
        self.assertEqual(show_net(*TOLD), TEXT)
        self.assertEqual(show_net(24, [], []), "day 24")
        self.assertEqual(show_net(1, ["a"], [(0, 0, [(0, 0, 3)])]), "day 1; a>a 0+3")
        self.assertEqual(show_net(5, ["a", "b"], [(0, 1, []), (1, 0, [(0, 4, 10 ** 15)]), (0, 1, [])]),
                         "day 5; a>b; b>a 0-4+1000000000000000; a>b")

    def test_there_and_back(self):
        for source, day, size, roads, goal in drawn_nets(71, 200, days=(1, 2, 5, 24, 10 ** 15)):
            order = list(dict.fromkeys(place for road in roads for place in road[:2]))
            renamed = [(order.index(start), order.index(end), [(a, b, min(c, 10 ** 15)) for a, b, c in board])
                       for start, end, board in roads]
            names = source.sample(NAMES, len(order))
            text = show_net(day, names, renamed)
            self.assertIs(type(text), str)
            self.assertEqual(read_net(text), (day, names, renamed))

    def test_what_is_handed_in_stays(self):
        told = copy.deepcopy(TOLD)
        show_net(*told)
        self.assertEqual(told, TOLD)

    def test_great_ones(self):
        source = random.Random(72)
        board = [(source.randrange(10 ** 14), 10 ** 15 - 1, 10 ** 15) for number in range(24)]
        told = (10 ** 15, ["a", "b"], [(0, 1, board)])
        self.assertEqual(read_net(show_net(*told)), told)


if __name__ == "__main__":
    unittest.main()
