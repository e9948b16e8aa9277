"""Nets: so many places, and roads (from, to, board) between them."""

from fordbook.errors import NoNet, NoPlace
from fordbook.windows import is_board, is_whole


def is_number(count, thing):
    return is_whole(thing) and 0 <= thing < count


def is_road(day, size, thing):
    if not isinstance(thing, tuple) or len(thing) != 3:
        return False
    if not is_number(size, thing[0]) or not is_number(size, thing[1]):
        return False
    return is_board(day, thing[2]) and all([window[2] > 0 for window in thing[2]])


def is_net(day, size, roads):
    if not is_whole(size) or size < 1 or not isinstance(roads, list):
        return False
    return all([is_road(day, size, road) for road in roads])


def need_net(day, size, roads):
    if not is_net(day, size, roads):
        raise NoNet("these are no size and roads of a net of the day")


def need_place(size, thing):
    if not is_number(size, thing):
        raise NoPlace("this is no number of a place")


def copied(roads):
    return [(start, end, list(board)) for start, end, board in roads]
