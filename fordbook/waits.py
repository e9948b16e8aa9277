"""How long one waits before a clock, from a moment to the one that the clock tells at it."""

from fordbook.stretches import first_wait, stretches


def longest(day, clock):
    found = None
    for row in stretches(day, clock):
        wait = first_wait(row)
        if found is None or wait > found[1]:
            found = (row[0], wait)
    return found


def sum_within(p, q, still, v):
    count = q - p + 1
    if still:
        return count * v - count * (p + q) // 2
    return count * v


def sum_of(day, clock):
    if len(clock) == 0:
        return None
    return sum([sum_within(p, q, still, v) for p, q, still, v in stretches(day, clock)])
