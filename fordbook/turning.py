"""Time turned about: who set off at x and came at y sets off at -y and comes at -x."""

from fordbook.reckon import clock_of


def turned_window(day, a, b, c):
    first = (-b - c) % day
    last = first + b - a
    if last < day:
        return [(first, last, c)]
    return [(first, day - 1, c), (0, last - day, c)]


def turned_board(day, board):
    found = []
    for a, b, c in board:
        found.extend(turned_window(day, a, b, c))
    return found


def turned(day, clock):
    return clock_of(day, turned_board(day, clock))
