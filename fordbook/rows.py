"""The rows that a desk answers, read into a word, the names in it and its other values."""

from fordbook.texts import is_name, read_ends, read_number, read_window

MOST_FIGURES = 30
MOST_TURNS = 3
MOST_PARTY = 6

SHAPES = {
    "soonest": ("name", "name", "moment"),
    "latest": ("name", "name", "moment"),
    "kept": ("name", "name", "moment", "turns"),
    "rides": ("name", "name", "moment"),
    "board": ("name", "name"),
    "longest": ("name", "name"),
    "open": ("road", "window"),
    "shut": ("road", "window"),
    "net": (),
}


def shape_of(words):
    if words[0] == "meet" and 3 <= len(words) <= 2 + MOST_PARTY:
        return ("moment",) + ("name",) * (len(words) - 2)
    return SHAPES.get(words[0])


def read_moment(word):
    if not word.startswith("-"):
        return read_number(word, MOST_FIGURES)
    moment = read_number(word[1:], MOST_FIGURES)
    return None if moment is None or moment == 0 else -moment


def read_turns(word):
    turns = read_number(word, MOST_FIGURES)
    return turns if turns is not None and turns <= MOST_TURNS else None


def read_names(kind, word):
    if kind == "road":
        return read_ends(word)
    return (word,) if is_name(word) else None


def read_value(day, kind, word):
    if kind == "moment":
        return read_moment(word)
    if kind == "turns":
        return read_turns(word)
    return read_window(day, word)


def read_row(day, row):
    if not isinstance(row, str):
        return None
    words = row.split(" ")
    shape = shape_of(words)
    if shape is None or len(words) != 1 + len(shape):
        return None
    names = []
    values = []
    for kind, word in zip(shape, words[1:]):
        named = kind in ("name", "road")
        found = read_names(kind, word) if named else read_value(day, kind, word)
        if found is None:
            return None
        if named:
            names.extend(found)
        else:
            values.append(found)
    return (words[0], names, values)
