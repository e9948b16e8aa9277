"""What several tests hand in, and plain slow ways to tell what is right."""

import itertools

FAR = 10 ** 40

# Neither window, board nor clock of any day.
JUNK = [
    None, True, False, 0, 1, -1, FAR, "", " ", "(0, 0, 0)", "abc", "a\tb\n", (), ((),),
    ("", "", ""), (None, None, None), ((0,), (0,), (0,)), ([], [], []), ([[[]]],),
    (((0, 0, 0),),), ((0, 0, 0), (0, 0, 0)), ((0, 0, 0), (0, 0, 0), (0, 0, 0)),
]


def windows(day, rides):
    return [(a, b, c) for a in range(day) for b in range(a, day) for c in rides]


def boards(day, rides, most):
    choice = windows(day, rides)
    for length in range(most + 1):
        for board in itertools.product(choice, repeat=length):
            yield list(board)


def departures(day, board, low, high):
    """All (x, y) of a board with x from low to high, moment by moment."""
    return [(x, x + c) for x in range(low, high + 1) for a, b, c in board if a <= x % day <= b]


def rises(day, board):
    """Whether a board's windows are in order and each later departure comes later."""
    for one, other in zip(board, board[1:]):
        if one[1] + 1 == other[0] and one[2] == other[2]:
            return False
        if one[0] >= other[0]:
            return False
    row = departures(day, board, 0, 2 * day - 1)
    return all(one[0] < other[0] and one[1] < other[1] for one, other in zip(row, row[1:]))


def clocks(day, rides, most):
    return [board for board in boards(day, rides, most) if rises(day, board)]


def long_clock(day, count, ride):
    """A clock of so many windows, with rides up to ride that go up and down, and its day filled evenly."""
    step = day // count
    wide = step // 4
    return [(k * step, k * step + wide, ride - (wide if k % 3 else 0)) for k in range(count)]
