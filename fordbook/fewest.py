"""The fewest windows that have a clock, and why there are none fewer."""

from fordbook.stretches import first_wait, stretches


def first_harms(day, rows):
    # For each stretch the first moment behind it that waits longer than any of its own, or day.
    waits = [first_wait(row) for row in rows]
    found = [day] * len(rows)
    pending = []
    for number, wait in enumerate(waits):
        while len(pending) > 0 and waits[pending[-1]] < wait:
            found[pending.pop()] = rows[number][0]
        pending.append(number)
    return found


def groups(day, clock):
    rows = stretches(day, clock)
    made = []
    latest = {}
    for row, harm in zip(rows, first_harms(day, rows)):
        if row[2]:
            continue
        ride = row[3]
        # A window of ride c waits just c, so what waits longer is what is not harmless for c.
        if ride in latest and row[0] < made[latest[ride]][3]:
            made[latest[ride]][1] = row[1]
        else:
            latest[ride] = len(made)
            made.append([row[0], row[1], ride, harm])
    return made


def fewest(day, clock):
    return [(a, b, c) for a, b, c, harm in groups(day, clock)]


def apart(day, clock):
    found = []
    harms = {}
    for a, b, c, harm in groups(day, clock):
        found.append((a, c, harms.get(c)))
        harms[c] = harm
    return found
