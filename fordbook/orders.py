"""Which of two clocks comes later, and where first."""

from fordbook.stretches import overlay


def later_within(row):
    p = row[0]
    v = row[3]
    other_v = row[5]
    if row[2] == row[4]:
        found = p if v > other_v else None
    elif row[2]:
        # Who rides falls behind who waits, so the first moment tells for all of the part.
        found = p if v > p + other_v else None
    else:
        found = max(p, other_v - v + 1)
    return found if found is not None and found <= row[1] else None


def first_later(day, one, other):
    if len(other) == 0:
        return None
    if len(one) == 0:
        return 0
    for row in overlay(day, one, other):
        found = later_within(row)
        if found is not None:
            return found
    return None


def no_later(day, one, other):
    return first_later(day, one, other) is None
