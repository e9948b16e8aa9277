"""Texts that tell a net, read and shown."""

from fordbook.errors import NoText
from fordbook.windows import is_window

FIGURES = "0123456789"
LETTERS = "abcdefghijklmnopqrstuvwxyz"
MOST_FIGURES = 16
MOST = 1000000000000000


def read_number(text, most_figures):
    if not 1 <= len(text) <= most_figures or not all([sign in FIGURES for sign in text]):
        return None
    if len(text) > 1 and text[0] == "0":
        return None
    return int(text)


def is_name(text):
    return 1 <= len(text) <= 8 and all([sign in LETTERS for sign in text])


def read_ends(text):
    parts = text.partition(">")
    if not is_name(parts[0]) or not is_name(parts[2]):
        return None
    return (parts[0], parts[2])


def read_span(text):
    parts = text.partition("-")
    a = read_number(parts[0], MOST_FIGURES)
    if parts[1] == "":
        return None if a is None else (a, a)
    b = read_number(parts[2], MOST_FIGURES)
    # Ends that are alike are written once: a window has one way to be written.
    if a is None or b is None or a >= b:
        return None
    return (a, b)


def read_window(day, text):
    parts = text.partition("+")
    span = read_span(parts[0])
    ride = read_number(parts[2], MOST_FIGURES)
    if span is None or ride is None or not 1 <= ride <= MOST:
        return None
    window = (span[0], span[1], ride)
    return window if is_window(day, window) else None


def read_day(text):
    parts = text.partition(" ")
    day = read_number(parts[2], MOST_FIGURES)
    if parts[0] != "day" or day is None or not 1 <= day <= MOST:
        return None
    return day


def read_board(day, words):
    board = [read_window(day, word) for word in words]
    return None if any([window is None for window in board]) else board


def number_of(names, name):
    if name not in names:
        names.append(name)
    return names.index(name)


def read_net(text):
    if not isinstance(text, str):
        raise NoText("this is no text")
    parts = text.split("; ")
    day = read_day(parts[0])
    if day is None:
        raise NoText("the text doesn't begin with a day")
    names = []
    roads = []
    for part in parts[1:]:
        words = part.split(" ")
        ends = read_ends(words[0])
        board = read_board(day, words[1:])
        if ends is None or board is None:
            raise NoText("the text tells something that is no road")
        start = number_of(names, ends[0])
        roads.append((start, number_of(names, ends[1]), board))
    return (day, names, roads)


def show_window(a, b, c):
    return f"{a}-{b}+{c}" if a < b else f"{a}+{c}"


def show_board(board):
    return " ".join([show_window(a, b, c) for a, b, c in board])


def show_road(start, end, board):
    windows = show_board(board)
    return f"{start}>{end} {windows}" if len(board) > 0 else f"{start}>{end}"


def show_net(day, names, roads):
    return "; ".join([f"day {day}"] + [show_road(names[start], names[end], board) for start, end, board in roads])
