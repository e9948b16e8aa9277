"""The gate: what can be kept, by which plan, and what the gatekeeper answers."""

from fordbook.asks import level_rounds
from fordbook.clocks import come
from fordbook.errors import NoRoad, NoTurn
from fordbook.nets import copied, is_number, need_place
from fordbook.walks import walk
from fordbook.windows import open_at


class Gate:

    def __init__(self, day, size, roads, goal, most=1):
        self.levels = level_rounds(day, size, roads, goal, most)
        self.day = day
        self.size = size
        self.roads = copied(roads)

    def told(self, place, t, left):
        return come(self.day, self.levels[left][-1][place], t)

    def need_left(self, left):
        if not is_number(len(self.levels), left):
            raise NoTurn("so many turnings away are never left")

    def need_ask(self, road, window, x):
        if not is_number(len(self.roads), road):
            raise NoRoad("this is no number of a road")
        board = self.roads[road][2]
        if not is_number(len(board), window):
            raise NoRoad("this is no number of a window of that road")
        if not open_at(self.day, board[window], x):
            raise NoRoad("that window isn't open at that moment")

    def soonest(self, place, t, left):
        need_place(self.size, place)
        self.need_left(left)
        return self.told(place, t, left)

    def plan(self, place, t, left):
        need_place(self.size, place)
        self.need_left(left)
        guard = self.levels[left - 1][-1] if left > 0 else None
        return walk(self.day, self.roads, self.levels[left], guard, place, t)

    def lets(self, road, window, x, left):
        self.need_ask(road, window, x)
        self.need_left(left)
        if left == 0:
            return True
        way = self.roads[road]
        there = self.told(way[1], x + way[2][window][2], left)
        here = self.told(way[0], x + 1, left - 1)
        return there is None or (here is not None and there >= here)
