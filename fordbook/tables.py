"""Tables: for each place the clock of the soonest journeys to a goal, or from a start."""

from fordbook.clocks import standing
from fordbook.nets import need_net, need_place
from fordbook.orders import first_later
from fordbook.reckon import behind, clock_of, sooner


def fords_of(day, roads):
    return [(start, end, clock_of(day, board)) for start, end, board in roads]


def staying(day, size, place):
    return [standing(day) if number == place else [] for number in range(size)]


def copied_table(told):
    return [list(clock) for clock in told]


def grown(day, size, place, step):
    # Rides take time, so no journey is sooner for coming twice to a place: size - 1 rides are enough.
    found = [staying(day, size, place)]
    while len(found) < size:
        if len(found) > 1 and found[-1] == found[-2]:
            found.append(copied_table(found[-1]))
        else:
            found.append(step(found[-1]))
    return found


def ride_first(day, fords, told):
    found = copied_table(told)
    for start, end, ford in fords:
        found[start] = sooner(day, found[start], behind(day, ford, told[end]))
    return found


def ride_last(day, fords, told):
    found = copied_table(told)
    for start, end, ford in fords:
        found[end] = sooner(day, found[end], behind(day, told[start], ford))
    return found


def rounds_to(day, size, roads, goal):
    fords = fords_of(day, roads)
    return grown(day, size, goal, lambda told: ride_first(day, fords, told))


def rounds(day, size, roads, goal):
    need_net(day, size, roads)
    need_place(size, goal)
    return rounds_to(day, size, roads, goal)


def table(day, size, roads, goal):
    return rounds(day, size, roads, goal)[-1]


def table_from(day, size, roads, start):
    need_net(day, size, roads)
    need_place(size, start)
    fords = fords_of(day, roads)
    return grown(day, size, start, lambda told: ride_last(day, fords, told))[-1]


def undercut(day, size, roads, goal, told):
    need_net(day, size, roads)
    need_place(size, goal)
    t = first_later(day, told[goal], standing(day))
    if t is not None:
        return (-1, t)
    for number, ford in enumerate(fords_of(day, roads)):
        t = first_later(day, told[ford[0]], behind(day, ford[2], told[ford[1]]))
        if t is not None:
            return (number, t)
    return None
