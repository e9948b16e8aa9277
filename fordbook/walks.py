"""Rows of asks, one behind the other, that come to the goal as soon as tables tell."""

from fordbook.clocks import come
from fordbook.windows import next_open


def comes_by(day, clock, t, s):
    y = come(day, clock, t)
    return y is not None and y <= s


def least_round(day, tables, place, t, s):
    for number, told in enumerate(tables):
        if comes_by(day, told[place], t, s):
            return number
    return None


def ask_by(day, roads, told, guard, place, t, s):
    # Of one window no moment is better than its first one: whatever is told behind it comes no sooner later.
    for number, road in enumerate(roads):
        for window_number, window in enumerate(road[2] if road[0] == place else []):
            x = next_open(day, window, t)
            z = x + window[2]
            if comes_by(day, told[road[1]], z, s) and (guard is None or comes_by(day, guard[place], x + 1, s)):
                return (number, window_number, x, z)
    return None


def walk(day, roads, tables, guard, place, t):
    s = come(day, tables[-1][place], t)
    if s is None:
        return None
    left = least_round(day, tables, place, t, s)
    row = []
    while left > 0:
        left -= 1
        ask = ask_by(day, roads, tables[left], guard, place, t, s)
        row.append(ask)
        place = roads[ask[0]][1]
        t = ask[3]
    return row
