"""Clocks of a day: windows in such an order that each later departure comes later, too."""

from fordbook.windows import is_board, last_open, next_open


def goes_ahead(one, other):
    # Neighbours with the same ride would be one window: a clock has one way to be written.
    if one[1] + 1 == other[0] and one[2] == other[2]:
        return False
    return one[1] < other[0] and one[1] + one[2] < other[0] + other[2]


def is_clock(day, thing):
    if not is_board(day, thing):
        return False
    if not all([goes_ahead(one, other) for one, other in zip(thing, thing[1:])]):
        return False
    if len(thing) == 0:
        return True
    return thing[-1][1] + thing[-1][2] < day + thing[0][0] + thing[0][2]


def first_where(clock, holds):
    # Asked only for what stays true once it is true along the clock, so halving finds it.
    low = 0
    high = len(clock)
    while low < high:
        middle = (low + high) // 2
        if holds(clock[middle]):
            high = middle
        else:
            low = middle + 1
    return low


def set_off(day, clock, t):
    if len(clock) == 0:
        return None
    hour = t % day
    number = first_where(clock, lambda window: hour <= window[1])
    # Behind the day's last window the first one of the next day follows.
    found = clock[number % len(clock)]
    x = next_open(day, found, t)
    return (x, x + found[2])


def come(day, clock, t):
    departure = set_off(day, clock, t)
    if departure is None:
        return None
    return departure[1]


def leave(day, clock, s):
    if len(clock) == 0:
        return None
    # Who leaves within one day comes within a day from the first one's coming on.
    start = clock[0][0] + clock[0][2]
    hour = start + (s - start) % day
    number = first_where(clock, lambda window: hour < window[0] + window[2])
    found = clock[number - 1]
    return last_open(day, found, s - found[2])


def standing(day):
    return [(0, day - 1, 0)]
