"""Windows to spare: a net thinned for a goal, and why each window that is left is needed."""

from fordbook.nets import copied
from fordbook.orders import first_later
from fordbook.tables import table


def without(roads, number, window):
    left = copied(roads)
    left[number][2].pop(window)
    return left


def thinned(day, size, roads, goal):
    whole = table(day, size, roads, goal)
    left = copied(roads)
    for number in range(len(roads)):
        window = 0
        while window < len(left[number][2]):
            fewer = without(left, number, window)
            if table(day, size, fewer, goal) == whole:
                left = fewer
            else:
                window += 1
    return left


def later_place(day, one, other):
    for place, clock in enumerate(one):
        t = first_later(day, clock, other[place])
        if t is not None:
            return (place, t)
    return None


def needs(day, size, roads, goal):
    left = thinned(day, size, roads, goal)
    whole = table(day, size, left, goal)
    found = []
    for number, road in enumerate(left):
        for window in range(len(road[2])):
            fewer = table(day, size, without(left, number, window), goal)
            # Without a window that thinning left the table is later somewhere, so there is always a place.
            found.append((number, window) + later_place(day, fewer, whole))
    return found
