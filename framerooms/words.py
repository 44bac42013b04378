"""Whole numbers, names and pairs, and the texts of values."""

from framerooms.errors import NoValue

LETTERS = "abcdefghijklmnopqrstuvwxyz"
FIGURES = "0123456789"
MOST_LETTERS = 6
MOST_FIGURES = 40


def is_number(thing):
    # A truth is an int to Python, but no whole number here.
    return isinstance(thing, int) and not isinstance(thing, bool)


def is_whole(thing, low, high):
    return is_number(thing) and low <= thing <= high


def is_name(thing):
    if not isinstance(thing, str):
        return False
    return 1 <= len(thing) <= MOST_LETTERS and all([sign in LETTERS for sign in thing])


def is_count(thing):
    return is_number(thing) and thing >= 0


def is_pair(thing):
    if not isinstance(thing, tuple):
        return False
    return len(thing) == 2 and is_count(thing[0]) and is_count(thing[1])


def value_text(value):
    if value is None:
        return "none"
    if is_number(value):
        return str(value)
    if is_pair(value):
        return str(value[0]) + ":" + str(value[1])
    raise NoValue(value)


def value_of(text):
    if not isinstance(text, str):
        raise NoValue(text)
    if text == "none":
        return None
    if is_whole_text(text):
        return int(text)
    parts = text.split(":")
    if len(parts) == 2 and is_count_text(parts[0]) and is_count_text(parts[1]):
        return (int(parts[0]), int(parts[1]))
    raise NoValue(text)


def is_whole_text(text):
    if text.startswith("-"):
        return text != "-0" and is_count_text(text[1:])
    return is_count_text(text)


def is_count_text(text):
    # Python's own reading of numbers, and its isdigit, allow more than plain figures.
    if not 1 <= len(text) <= MOST_FIGURES:
        return False
    if text.startswith("0") and text != "0":
        return False
    return all([sign in FIGURES for sign in text])
