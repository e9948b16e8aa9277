"""Asks that a gatekeeper may turn away so often: the soonest moment that can be kept, for all moments at once."""

from fordbook.errors import NoTurn
from fordbook.nets import need_net, need_place
from fordbook.reckon import behind, later, sooner
from fordbook.tables import copied_table, grown, rounds_to
from fordbook.windows import is_whole


def need_turn(thing):
    if not is_whole(thing) or thing < 0:
        raise NoTurn("this is no number of turnings away")


def guarded(day, roads, guard):
    # Who is turned away at x stands at the same place at x + 1: as if by a ride of 1.
    asks = []
    for start, end, board in roads:
        for a, b, c in board:
            asks.append((start, end, [(a, b, c)], behind(day, [(a, b, 1)], guard[start])))
    return asks


def ask_first(day, asks, told):
    found = copied_table(told)
    for start, end, window, barred in asks:
        kept = later(day, behind(day, window, told[end]), barred)
        found[start] = sooner(day, found[start], kept)
    return found


def guarded_rounds(day, size, roads, goal, guard):
    asks = guarded(day, roads, guard)
    return grown(day, size, goal, lambda told: ask_first(day, asks, told))


def level_rounds(day, size, roads, goal, most):
    need_net(day, size, roads)
    need_place(size, goal)
    need_turn(most)
    found = [rounds_to(day, size, roads, goal)]
    while len(found) <= most:
        found.append(guarded_rounds(day, size, roads, goal, found[-1][-1]))
    return found


def levels(day, size, roads, goal, most):
    return [tables[-1] for tables in level_rounds(day, size, roads, goal, most)]
