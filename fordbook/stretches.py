"""The stretches of a clock: its day told whole, and back again to the clock."""


def stretches(day, clock):
    rows = []
    p = 0
    for a, b, c in clock:
        if p < a:
            rows.append((p, a - 1, True, a + c))
        rows.append((a, b, False, c))
        p = b + 1
    # Behind the last window one waits for the next day's first one.
    if len(rows) > 0 and p < day:
        rows.append((p, day - 1, True, day + clock[0][0] + clock[0][2]))
    return rows


def first_told(row):
    return row[3] if row[2] else row[0] + row[3]


def first_wait(row):
    # Within a stretch no moment waits longer than its first one.
    return first_told(row) - row[0]


def overlay(day, one, other):
    # Within one part neither stretch ends, so that what both tell can be set side by side.
    ones = stretches(day, one)
    others = stretches(day, other)
    rows = []
    k = 0
    j = 0
    p = 0
    while p < day:
        q = min(ones[k][1], others[j][1])
        rows.append((p, q, ones[k][2], ones[k][3], others[j][2], others[j][3]))
        if ones[k][1] == q:
            k += 1
        if others[j][1] == q:
            j += 1
        p = q + 1
    return rows


def put_window(clock, a, b, c):
    if a > b:
        return
    if len(clock) > 0 and clock[-1][1] + 1 == a and clock[-1][2] == c:
        clock[-1] = (clock[-1][0], b, c)
    else:
        clock.append((a, b, c))


def clock_from(day, rows):
    # The rows may be cut anyhow: only what they tell counts, so that what tells the same is an equal list.
    clock = []
    for k, row in enumerate(rows):
        following = first_told(rows[k + 1]) if k + 1 < len(rows) else day + first_told(rows[0])
        q = row[1]
        v = row[3]
        # A moment is a departure just where who stands there a moment later comes later.
        if row[2]:
            put_window(clock, q, q if v < following else q - 1, v - q)
        else:
            put_window(clock, row[0], q if q + v < following else q - 1, v)
    return clock
