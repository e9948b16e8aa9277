"""Clocks reckoned with: the clock of a board, the sooner and the later of two, one behind another."""

from fordbook.clocks import come, first_where
from fordbook.errors import NoBoard
from fordbook.stretches import clock_from, overlay, stretches
from fordbook.windows import is_board


def picked(p, q, waiting, riding, late):
    # Up to the cut who rides comes no later than who waits, behind it no sooner.
    cut = waiting - riding
    ahead = (p, min(q, cut), late, waiting if late else riding)
    then = (max(p, cut + 1), q, not late, riding if late else waiting)
    return [part for part in (ahead, then) if part[0] <= part[1]]


def joined(day, one, other, late):
    rows = []
    for p, q, still, v, other_still, other_v in overlay(day, one, other):
        if still == other_still:
            rows.append((p, q, still, max(v, other_v) if late else min(v, other_v)))
        elif still:
            rows.extend(picked(p, q, v, other_v, late))
        else:
            rows.extend(picked(p, q, other_v, v, late))
    return clock_from(day, rows)


def sooner(day, one, other):
    if len(one) == 0 or len(other) == 0:
        return one + other
    return joined(day, one, other, False)


def later(day, one, other):
    if len(one) == 0 or len(other) == 0:
        return []
    return joined(day, one, other, True)


def ridden(day, p, q, ride, others):
    # A ride may lead over midnight, so the other clock's stretches are walked round.
    hour = (p + ride) % day
    midnight = p + ride - hour
    k = first_where(others, lambda row: hour <= row[1])
    rows = []
    while p <= q:
        end = min(q, midnight + others[k][1] - ride)
        if others[k][2]:
            rows.append((p, end, True, midnight + others[k][3]))
        else:
            rows.append((p, end, False, ride + others[k][3]))
        p = end + 1
        k += 1
        if k == len(others):
            k = 0
            midnight += day
    return rows


def behind(day, one, other):
    if len(one) == 0 or len(other) == 0:
        return []
    others = stretches(day, other)
    rows = []
    for p, q, still, v in stretches(day, one):
        if still:
            rows.append((p, q, True, come(day, other, v)))
        else:
            rows.extend(ridden(day, p, q, v, others))
    return clock_from(day, rows)


def clock_within(day, board):
    # One window is a clock as it stands; halves keep the work small for boards of many windows.
    if len(board) < 2:
        return list(board)
    half = len(board) // 2
    return sooner(day, clock_within(day, board[:half]), clock_within(day, board[half:]))


def clock_of(day, board):
    if not is_board(day, board):
        raise NoBoard("this is no board of the day")
    return clock_within(day, board)
