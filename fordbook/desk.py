"""The desk: it keeps a net that a text told, and answers rows."""

from fordbook.asks import levels
from fordbook.clocks import come, leave
from fordbook.errors import NoName, NoRow, NoWindow
from fordbook.fewest import fewest
from fordbook.journeys import fewest_rides
from fordbook.meetings import meet_at
from fordbook.rows import read_row
from fordbook.tables import table
from fordbook.texts import read_net, show_board, show_net
from fordbook.waits import longest


def shown(moment):
    return "never" if moment is None else str(moment)


def clock_between(desk, places):
    return table(desk.day, len(desk.names), desk.roads, places[1])[places[0]]


def soonest_row(desk, places, values):
    return shown(come(desk.day, clock_between(desk, places), values[0]))


def latest_row(desk, places, values):
    return shown(leave(desk.day, clock_between(desk, places), values[0]))


def kept_row(desk, places, values):
    tables = levels(desk.day, len(desk.names), desk.roads, places[1], values[1])
    return shown(come(desk.day, tables[values[1]][places[0]], values[0]))


def rides_row(desk, places, values):
    t = values[0]
    s = come(desk.day, clock_between(desk, places), t)
    if s is None:
        return "never"
    return str(fewest_rides(desk.day, len(desk.names), desk.roads, places[1], places[0], t, s))


def board_row(desk, places, values):
    return show_board(fewest(desk.day, clock_between(desk, places)))


def longest_row(desk, places, values):
    found = longest(desk.day, clock_between(desk, places))
    return "never" if found is None else " ".join([str(found[0]), str(found[1])])


def meet_row(desk, places, values):
    party = [(place, 0) for place in places]
    found = meet_at(desk.day, len(desk.names), desk.roads, party, values[0])
    return "never" if found is None else " ".join([desk.names[found[0]], str(found[1])])


def boards_between(desk, places):
    return [board for start, end, board in desk.roads if [start, end] == places]


def open_row(desk, places, values):
    boards = boards_between(desk, places)
    if len(boards) > 0:
        boards[0].append(values[0])
    else:
        desk.roads.append((places[0], places[1], [values[0]]))
    return "ok"


def shut_row(desk, places, values):
    boards = [board for board in boards_between(desk, places) if values[0] in board]
    if len(boards) == 0:
        raise NoWindow("there is no such window")
    boards[0].remove(values[0])
    return "ok"


def net_row(desk, places, values):
    return show_net(desk.day, desk.names, desk.roads)


ANSWERS = {
    "soonest": soonest_row,
    "latest": latest_row,
    "kept": kept_row,
    "rides": rides_row,
    "board": board_row,
    "longest": longest_row,
    "meet": meet_row,
    "open": open_row,
    "shut": shut_row,
    "net": net_row,
}


class Desk:

    def __init__(self, text):
        told = read_net(text)
        self.day = told[0]
        self.names = told[1]
        self.roads = told[2]

    def say(self, row):
        found = read_row(self.day, row)
        if found is None:
            raise NoRow("this is none of the rows")
        if not all([name in self.names for name in found[1]]):
            raise NoName("by one of these names no place is known")
        answer = ANSWERS[found[0]]
        return answer(self, [self.names.index(name) for name in found[1]], found[2])
