"""What several tests hand in, and plain slow ways to tell what is right."""

import itertools

FAR = 10 ** 40

# Neither window, board nor clock of any day.
JUNK = [
    None, True, False, 0, 1, -1, FAR, "", " ", "(0, 0, 0)", "abc", "a\tb\n", (), ((),),
    ("", "", ""), (None, None, None), ((0,), (0,), (0,)), ([], [], []), ([[[]]],),
    (((0, 0, 0),),), ((0, 0, 0), (0, 0, 0)), ((0, 0, 0), (0, 0, 0), (0, 0, 0)),
]


def windows(day, rides):
    return [(a, b, c) for a in range(day) for b in range(a, day) for c in rides]


def boards(day, rides, most):
    choice = windows(day, rides)
    for length in range(most + 1):
        for board in itertools.product(choice, repeat=length):
            yield list(board)


def departures(day, board, low, high):
    """All (x, y) of a board with x from low to high, moment by moment."""
    return [(x, x + c) for x in range(low, high + 1) for a, b, c in board if a <= x % day <= b]


def rises(day, board):
    """Whether a board's windows are in order and each later departure comes later."""
    for one, other in zip(board, board[1:]):
        if one[1] + 1 == other[0] and one[2] == other[2]:
            return False
        if one[0] >= other[0]:
            return False
    row = departures(day, board, 0, 2 * day - 1)
    return all(one[0] < other[0] and one[1] < other[1] for one, other in zip(row, row[1:]))


def clocks(day, rides, most):
    return [board for board in boards(day, rides, most) if rises(day, board)]


def long_clock(day, count, ride):
    """A clock of so many windows, with rides up to ride that go up and down, and its day filled evenly."""
    step = day // count
    wide = step // 4
    return [(k * step, k * step + wide, ride - (wide if k % 3 else 0)) for k in range(count)]


def told_by(day, board, t):
    """What a board tells at t, by trying each moment of a day; None for never."""
    return min([x + c for x in range(t, t + day) for a, b, c in board if a <= x % day <= b], default=None)


def clock_telling(day, told):
    """The clock that tells what the function told does, moment by moment."""
    values = [told(t) for t in range(day + 1)]
    if values[0] is None:
        return []
    clock = []
    for x in range(day):
        if values[x] < values[x + 1]:
            ride = values[x] - x
            if clock and clock[-1][1] == x - 1 and clock[-1][2] == ride:
                clock[-1] = (clock[-1][0], x, ride)
            else:
                clock.append((x, x, ride))
    return clock


def slow_clock(day, board):
    return clock_telling(day, lambda t: told_by(day, board, t))


def drawn_board(source, day, most, ride, least_ride=0):
    board = []
    for number in range(source.randint(0, most)):
        a = source.randrange(day)
        b = source.choice([a, source.randrange(a, day), day - 1])
        board.append((a, b, source.randint(least_ride, ride)))
    return board


def drawn_clock(source, day, most, ride):
    return slow_clock(day, drawn_board(source, day, most, ride))


def great_board(source, day, count, ride):
    """A board of so many windows, wide and narrow, with rides to ride."""
    board = []
    for number in range(count):
        a = source.randrange(day)
        b = min(day - 1, a + source.choice([0, 1, day // 5000, day // 300, day // 7, day]))
        board.append((a, b, source.choice([ride, ride - source.randrange(min(day, ride)), source.randint(0, ride)])))
    return board
