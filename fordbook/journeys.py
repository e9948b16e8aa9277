"""Journeys: a soonest one, one that leaves as late as can be, and the fewest rides."""

from fordbook.clocks import leave
from fordbook.nets import need_place
from fordbook.tables import rounds
from fordbook.walks import least_round, walk


def journey(day, size, roads, goal, place, t):
    tables = rounds(day, size, roads, goal)
    need_place(size, place)
    return walk(day, roads, tables, None, place, t)


def last_journey(day, size, roads, goal, place, s):
    tables = rounds(day, size, roads, goal)
    need_place(size, place)
    t = leave(day, tables[-1][place], s)
    # From the latest moment on no ride can leave later and still come by s.
    return None if t is None else walk(day, roads, tables, None, place, t)


def fewest_rides(day, size, roads, goal, place, t, s):
    tables = rounds(day, size, roads, goal)
    need_place(size, place)
    return least_round(day, tables, place, t, s)
