import copy
import random
import unittest

from fordbook.asks import levels
from fordbook.clocks import come, leave
from fordbook.desk import Desk
from fordbook.errors import FordError, NoName, NoRow, NoText, NoWindow
from fordbook.fewest import fewest
from fordbook.journeys import fewest_rides
from fordbook.meetings import meet_at
from fordbook.tables import table
from fordbook.texts import read_net, show_net
from fordbook.waits import longest
from samples import JUNK
from slow_nets import ROADS, great_net
from test_texts import WRONG

NAMES = ["quay", "ness", "mill", "cairn"]
TEXT = show_net(24, NAMES, ROADS)

NO_ROWS = [
    "", " ", "soonest", "soonest quay", "soonest quay ness", "soonest quay ness 5 6", "soonest  quay ness 5",
    " soonest quay ness 5", "soonest quay ness 5 ", "soonest quay ness 5\n", "soonest\tquay ness 5", "Soonest quay ness 5",
    "soonest quay>ness 5", "soonest 5 quay ness", "soonest quay ness x", "soonest Quay ness 5", "soonest quay ness1 5",
    "soonest abcdefghi ness 5", "soonest quay  5", "sooner quay ness 5", "latest quay ness", "latest quay ness 5 5",
    "latest quay ness never", "kept quay ness 5", "kept quay ness 5 4", "kept quay ness 5 -1", "kept quay ness 5 10",
    "kept quay ness 5 01", "kept quay ness 5 -0", "kept quay ness 5 x", "kept quay ness 5 1 1", "kept quay ness 05 1",
    "kept quay ness 5 00", "kept quay ness 5 3.0", "kept quay ness 5 ", "rides quay ness", "rides quay ness 5 6",
    "board quay", "board quay ness 5", "board", "board quay>ness", "longest quay", "longest quay ness 5", "longest",
    "meet", "meet 5", "meet 5 ", "meet quay", "meet quay 5", "meet 5 5", "meet 5 quay ness mill quay ness mill quay",
    "meet 05 quay", "meet 5 quay  ness", "meet 5 Quay", "open", "open quay>ness", "open quay ness 3+1", "open 3+1 quay>ness",
    "open quay>ness 3+1 4+1", "open quay>ness 24+1", "open quay>ness 3-24+1", "open quay>ness 9-3+1", "open quay>ness 9-9+1",
    "open quay>ness 3+0", "open quay>ness 3+1000000000000001", "open quay>ness 3", "open quay>ness 3-9",
    "open quay>ness 03+1", "open quay>ness -3+1", "open quay>ness>mill 3+1", "open quay> 3+1", "open quay>Ness 3+1",
    "open quay>ness 3+1 ", "open quay >ness 3+1", "shut", "shut quay>ness", "shut quay>ness 24+1", "shut quay>ness 3-9+0",
    "shut quay>ness 3-9+2 15+1", "shut quay ness 3-9+2", "shut quay>ness 3-3+2", "net ", " net", "net quay", "Net", "nets",
    "net\n", "day 24", TEXT, "ok", "never", "quay", "0", "soonest quay ness " + "9" * 31, "soonest quay ness -" + "9" * 31,
    "soonest quay ness -0", "soonest quay ness 00", "soonest quay ness 05", "soonest quay ness -05", "soonest quay ness --5",
    "soonest quay ness +5", "soonest quay ness -", "soonest quay ness 5-", "soonest quay ness 1_0", "soonest quay ness 5.0",
    "soonest quay ness " + "0" * 30, "soonest quay ness " + "9" * 5000, "latest quay ness -0", "rides quay ness -0",
    "meet -0 quay", "soonest quay ness None", "soonest; quay ness 5",
]


class TestRows(unittest.TestCase):

    def asked(self, rows, text=TEXT):
        desk = Desk(text)
        for row, told in rows:
            self.assertEqual(desk.say(row), told, row)

    def test_soonest(self):
        self.asked([("soonest quay mill 0", "6"), ("soonest quay mill 4", "15"), ("soonest quay mill 16", "29"),
                    ("soonest quay mill -20", "-9"), ("soonest quay quay 7", "7"), ("soonest quay quay -7", "-7"),
                    ("soonest quay quay 0", "0"), ("soonest quay cairn 0", "never"), ("soonest cairn quay 2", "26"),
                    ("soonest quay mill -24", "-18")])

    def test_latest(self):
        self.asked([("latest quay mill 15", "9"), ("latest quay mill 14", "3"), ("latest quay mill 5", "-8"),
                    ("latest quay quay -3", "-3"), ("latest quay cairn 99", "never"), ("latest cairn quay 1", "-23")])

    def test_kept(self):
        text = "day 10; a>b 2+5 5+2; b>c"
        self.asked([("kept a b 0 0", "7"), ("kept a b 0 1", "7"), ("kept a b 0 2", "17"), ("kept a b 0 3", "17"),
                    ("kept a b 3 0", "7"), ("kept a b 3 1", "17"), ("kept a b -10 1", "-3"), ("kept a c 0 0", "never"),
                    ("kept a c 0 3", "never"), ("kept b b 4 3", "4"), ("kept b b -4 0", "-4")], text)

    def test_rides(self):
        self.asked([("rides quay mill 0", "2"), ("rides quay mill 16", "1"), ("rides cairn mill 0", "3"),
                    ("rides mill mill -5", "0"), ("rides mill cairn 5", "never"), ("rides quay ness 0", "1")])
        # Both ways come at 3; the fewer rides are told.
        self.asked([("rides a c 0", "1")], "day 9; a>b 0+1; b>c 1-3+2 1+4; a>c 0-8+3; a>c 0-8+5")

    def test_board(self):
        self.asked([("board quay ness", "3-9+2 15+1"), ("board quay quay", "0-23+0"), ("board quay cairn", ""),
                    ("board quay mill", "3+3 9+6 15+5 16+13"), ("board cairn ness", "1+4")])
        self.asked([("board a b", "0-23+5 6-8+2")], "day 24; a>b 0-23+5; a>b 6-8+2")
        self.asked([("board a a", "0+0"), ("board a b", "0+7"), ("board b a", "")], "day 1; a>b 0+7")

    def test_longest(self):
        self.asked([("longest quay ness", "16 13"), ("longest quay quay", "0 0"), ("longest quay cairn", "never"),
                    ("longest cairn ness", "2 27")])

    def test_meet(self):
        self.asked([("meet 0 quay ness", "ness 5"), ("meet 4 quay mill", "quay 9"), ("meet -20 quay", "quay -20"),
                    ("meet 5 quay quay quay quay quay quay", "quay 5"), ("meet 0 cairn quay", "quay 2"),
                    ("meet 0 quay ness mill quay ness mill", "mill 6")])
        self.asked([("meet 0 a c", "never"), ("meet 0 d a b", "never"), ("meet 0 c d", "d 3")], "day 9; a>b 0+1; c>d 2+1")
        self.asked([("meet 0 a c", "b 3"), ("meet 1 a c", "b 10")], "day 9; a>b 0+1; c>b 2+1; b>d")
        # As soon at both: the place whose number is less, not the one that is named first.
        self.asked([("meet 0 a b", "a 3"), ("meet 0 b a", "a 3")], "day 9; a>b 0+3; b>a 0+3")

    def test_open(self):
        self.asked([("open quay>ness 0-2+1", "ok"), ("net", TEXT.replace("15+1;", "15+1 0-2+1;")),
                    ("soonest quay ness 0", "1"), ("board quay ness", "0-2+1 3-9+2 15+1"),
                    ("open quay>ness 0-2+1", "ok"), ("net", TEXT.replace("15+1;", "15+1 0-2+1 0-2+1;"))])

    def test_open_on_the_first_of_two_alike(self):
        self.asked([("open a>b 7+1", "ok"), ("net", "day 9; b>a; a>b 7+1; a>b 3+1"), ("open a>b 8+1000000000000000", "ok"),
                    ("net", "day 9; b>a; a>b 7+1 8+1000000000000000; a>b 3+1")], "day 9; b>a; a>b; a>b 3+1")

    def test_open_on_a_road_that_isnt_there_yet(self):
        desk = Desk("day 24; a>b 3+1; b>c")
        self.assertEqual(desk.say("soonest a c 0"), "never")
        self.assertEqual(desk.say("open a>c 5-6+2"), "ok")
        self.assertEqual(desk.say("soonest a c 0"), "7")
        self.assertEqual(desk.say("open c>a 5+2"), "ok")
        self.assertEqual(desk.say("open c>a 6+2"), "ok")
        self.assertEqual(desk.say("net"), "day 24; a>b 3+1; b>c; a>c 5-6+2; c>a 5+2 6+2")

    def test_shut(self):
        desk = Desk("day 9; a>b 3+1; a>b 4+1 5+1 4+1; b>a 4+1; a>b 4+1")
        self.assertEqual(desk.say("shut a>b 4+1"), "ok")
        self.assertEqual(desk.say("net"), "day 9; a>b 3+1; a>b 5+1 4+1; b>a 4+1; a>b 4+1")
        self.assertEqual(desk.say("shut a>b 4+1"), "ok")
        self.assertEqual(desk.say("shut a>b 5+1"), "ok")
        self.assertEqual(desk.say("net"), "day 9; a>b 3+1; a>b; b>a 4+1; a>b 4+1")
        self.assertEqual(desk.say("shut a>b 4+1"), "ok")
        self.assertEqual(desk.say("soonest a b 4"), "13")
        self.assertEqual(desk.say("shut a>b 3+1"), "ok")
        self.assertEqual(desk.say("soonest a b 4"), "never")
        self.assertEqual(desk.say("net"), "day 9; a>b; a>b; b>a 4+1; a>b")
        with self.assertRaises(NoWindow):
            desk.say("shut a>b 4+1")
        self.assertEqual(desk.say("open a>b 4+1"), "ok")
        self.assertEqual(desk.say("net"), "day 9; a>b 4+1; a>b; b>a 4+1; a>b")

    def test_net(self):
        for text in (TEXT, "day 24", "day 1; a>a", "day 1000000000000000; b>a 0+1; a>b; b>a 1-2+3"):
            self.asked([("net", text)], text)

    def test_moments_of_one_to_thirty_figures(self):
        most = "9" * 30
        self.asked([("soonest quay quay " + most, most), ("latest quay quay -" + most, "-" + most),
                    ("meet " + most + " quay", "quay " + most), ("meet -1" + "0" * 29 + " quay", "quay -1" + "0" * 29),
                    ("soonest quay quay 10", "10"), ("kept quay quay " + most + " 3", most)])
        self.assertEqual(Desk(TEXT).say("soonest quay mill " + most), str(come(24, table(24, 4, ROADS, 2)[0], int(most))))

    def test_all_rows_against_the_rest_of_the_program(self):
        source = random.Random(81)
        for day, ride in ((1000, 90), (10 ** 15, 10 ** 15), (24, 20)):
            names = ["a", "b", "c", "d", "e", "f", "g", "h"]
            roads = great_net(source, day, ride)
            desk = Desk(show_net(day, names, roads))
            self.assertEqual(desk.say("net"), show_net(day, names, roads))
            for number in range(12):
                place, goal, other = [source.randrange(8) for part in range(3)]
                t = source.choice([0, -1, day, source.randint(-10 ** 30 + 1, 10 ** 30 - 1)])
                clock = table(day, 8, roads, goal)[place]
                pair = f"{names[place]} {names[goal]}"

                def shown(moment):
                    return "never" if moment is None else str(moment)

                self.assertEqual(desk.say(f"soonest {pair} {t}"), shown(come(day, clock, t)))
                self.assertEqual(desk.say(f"latest {pair} {t}"), shown(leave(day, clock, t)))
                for left in range(4):
                    kept = come(day, levels(day, 8, roads, goal, left)[left][place], t)
                    self.assertEqual(desk.say(f"kept {pair} {t} {left}"), shown(kept))
                s = come(day, clock, t)
                rides = None if s is None else fewest_rides(day, 8, roads, goal, place, t, s)
                self.assertEqual(desk.say(f"rides {pair} {t}"), shown(rides))
                wait = longest(day, clock)
                self.assertEqual(desk.say(f"longest {pair}"), "never" if wait is None else f"{wait[0]} {wait[1]}")
                windows = [f"{a}-{b}+{c}" if a < b else f"{a}+{c}" for a, b, c in fewest(day, clock)]
                self.assertEqual(desk.say(f"board {pair}"), " ".join(windows))
                met = meet_at(day, 8, roads, [(place, 0), (other, 0)], t)
                told = "never" if met is None else f"{names[met[0]]} {met[1]}"
                self.assertEqual(desk.say(f"meet {t} {names[place]} {names[other]}"), told)

    def test_drawn_opening_and_shutting(self):
        source = random.Random(82)
        names = ["a", "b", "c"]
        desk = Desk("day 6; a>b; b>c; b>c")
        roads = [(0, 1, []), (1, 2, []), (1, 2, [])]
        for number in range(300):
            start, end, a, c = source.randrange(3), source.randrange(3), source.randrange(6), source.randint(1, 2)
            b = source.choice([a, min(a + 1, 5)])
            written = f"{a}-{b}+{c}" if a < b else f"{a}+{c}"
            same = [board for one, other, board in roads if (one, other) == (start, end)]
            if source.random() < 0.4:
                self.assertEqual(desk.say(f"open {names[start]}>{names[end]} {written}"), "ok")
                if same:
                    same[0].append((a, b, c))
                else:
                    roads.append((start, end, [(a, b, c)]))
            else:
                having = [board for board in same if (a, b, c) in board]
                row = f"shut {names[start]}>{names[end]} {written}"
                if having:
                    self.assertEqual(desk.say(row), "ok")
                    having[0].remove((a, b, c))
                else:
                    with self.assertRaises(NoWindow):
                        desk.say(row)
            self.assertEqual(read_net(desk.say("net")), (6, names, roads))
            told = come(6, table(6, 3, roads, 2)[0], 5)
            self.assertEqual(desk.say("soonest a c 5"), "never" if told is None else str(told))


class TestRefusals(unittest.TestCase):

    def test_no_text(self):
        for thing in WRONG + [thing for thing in JUNK if not isinstance(thing, str)] + [[TEXT], (TEXT,), [[]]]:
            for caught in (NoText, FordError, ValueError):
                with self.assertRaises(caught, msg=repr(thing)):
                    Desk(thing)

    def test_no_row(self):
        desk = Desk(TEXT)
        for row in NO_ROWS:
            for caught in (NoRow, FordError, ValueError):
                with self.assertRaises(caught, msg=repr(row)):
                    desk.say(row)
            self.assertEqual(desk.say("net"), TEXT)
        for thing in JUNK + [[], ["net"], ("net",), [["net"]], ["soonest", "quay", "ness", "5"], "NET"]:
            before = copy.deepcopy(thing)
            with self.assertRaises(NoRow, msg=repr(thing)):
                desk.say(thing)
            self.assertEqual(thing, before)
        self.assertEqual(desk.say("net"), TEXT)

    def test_a_row_that_is_none_ahead_of_a_name_that_is_none(self):
        desk = Desk(TEXT)
        for row in ("soonest rock ness x", "soonest rock ness -0", "kept rock ness 5 4", "board rock ness 5", "meet x rock",
                    "open rock>ness 24+1", "shut rock>ness 3+0", "meet 5 rock ness mill quay ness mill quay"):
            with self.assertRaises(NoRow, msg=row):
                desk.say(row)

    def test_no_name(self):
        desk = Desk(TEXT)
        for row in ("soonest rock ness 5", "soonest quay rock 5", "latest rock rock 5", "latest quay rock -5",
                    "kept rock ness 5 3", "kept quay rock 5 0", "rides rock ness 5", "rides quay rock 5", "board rock ness",
                    "board quay rock", "longest rock ness", "longest quay rock", "meet 5 rock", "meet 5 quay rock",
                    "meet 5 quay ness mill cairn quay rock", "open rock>ness 3+1", "open quay>rock 3+1",
                    "open rock>rock 3+1", "shut rock>ness 3+1", "shut quay>rock 3-9+2", "soonest qua ness 5",
                    "soonest quays ness 5", "soonest never ness 5"):
            for caught in (NoName, FordError, ValueError):
                with self.assertRaises(caught, msg=row):
                    desk.say(row)
            self.assertEqual(desk.say("net"), TEXT)

    def test_a_desk_without_places(self):
        desk = Desk("day 24")
        for row in ("soonest a b 5", "board a a", "meet 5 a", "open a>b 3+1", "shut a>b 3+1", "kept a b 5 1"):
            with self.assertRaises(NoName, msg=row):
                desk.say(row)
        with self.assertRaises(NoRow):
            desk.say("open a>b 24+1")
        self.assertEqual(desk.say("net"), "day 24")

    def test_no_window(self):
        desk = Desk(TEXT)
        for row in ("shut quay>ness 3-9+3", "shut quay>ness 3-8+2", "shut quay>ness 3+2", "shut ness>quay 3-9+2",
                    "shut quay>quay 3-9+2", "shut quay>mill 3-9+2", "shut quay>cairn 3+1"):
            for caught in (NoWindow, FordError, ValueError):
                with self.assertRaises(caught, msg=row):
                    desk.say(row)
            self.assertEqual(desk.say("net"), TEXT)

    def test_two_desks_know_nothing_of_one_another(self):
        one = Desk(TEXT)
        other = Desk(TEXT)
        one.say("open quay>ness 0+1")
        one.say("shut mill>quay 6-8+3")
        self.assertEqual(other.say("net"), TEXT)
        self.assertEqual(Desk(TEXT).say("net"), TEXT)


if __name__ == "__main__":
    unittest.main()
