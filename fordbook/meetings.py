"""Meetings: a party leaves from several places, and all go to the one where they are together soonest."""

from fordbook.clocks import come, standing
from fordbook.errors import NoPlace
from fordbook.nets import is_number, need_net
from fordbook.reckon import behind, later, sooner
from fordbook.tables import table_from
from fordbook.windows import is_whole


def is_member(size, thing):
    if not isinstance(thing, tuple) or len(thing) != 2:
        return False
    return is_number(size, thing[0]) and is_whole(thing[1]) and thing[1] >= 0


def need_party(size, thing):
    if not isinstance(thing, list) or not 1 <= len(thing) <= 6:
        raise NoPlace("this is no party")
    if not all([is_member(size, part) for part in thing]):
        raise NoPlace("one of this party is no start with a delay")


def tables_by_start(day, size, roads, party):
    need_net(day, size, roads)
    need_party(size, party)
    found = {}
    for start, delay in party:
        if start not in found:
            found[start] = table_from(day, size, roads, start)
    return found


def meeting_there(day, party, tables, place):
    found = standing(day)
    for start, delay in party:
        # A delay is as a ride that can be taken at each moment.
        found = later(day, found, behind(day, [(0, day - 1, delay)], tables[start][place]))
    return found


def meeting(day, size, roads, party):
    tables = tables_by_start(day, size, roads, party)
    found = []
    for place in range(size):
        found = sooner(day, found, meeting_there(day, party, tables, place))
    return found


def meet_at(day, size, roads, party, t):
    tables = tables_by_start(day, size, roads, party)
    found = None
    for place in range(size):
        comings = [come(day, tables[start][place], t + delay) for start, delay in party]
        if any([moment is None for moment in comings]):
            continue
        if found is None or max(comings) < found[1]:
            found = (place, max(comings))
    return found
