"""Windows (a, b, c) of a day that comes round, and boards: lists of windows in any order."""


def is_whole(thing):
    # Python counts True and False among the ints; here they are none.
    return isinstance(thing, int) and not isinstance(thing, bool)


def is_window(day, thing):
    if not isinstance(thing, tuple) or len(thing) != 3:
        return False
    if not all([is_whole(part) for part in thing]):
        return False
    return 0 <= thing[0] <= thing[1] < day and thing[2] >= 0


def is_board(day, thing):
    return isinstance(thing, list) and all([is_window(day, part) for part in thing])


def open_at(day, window, t):
    return window[0] <= t % day <= window[1]


def next_open(day, window, t):
    hour = t % day
    midnight = t - hour
    if hour > window[1]:
        return midnight + day + window[0]
    return midnight + max(hour, window[0])


def last_open(day, window, t):
    hour = t % day
    midnight = t - hour
    if hour < window[0]:
        return midnight - day + window[1]
    return midnight + min(hour, window[1])
