"""The forms of the lines that a desk is told, and the texts of what it answers."""

from framerooms.errors import NoValue
from framerooms.words import is_name, is_whole_text, value_of, value_text

# By a line's first word, of what kind each word behind it is.
HOUSE_LINES = {
    "begin": ("number",), "finish": ("number",), "caught": ("number",), "moved": ("number",),
    "make": ("number", "number"), "put": ("way", "number", "value"),
    "hold": ("name", "value"), "drop": ("name",), "ring": ("name", "number", "number"), "turn": ("name",),
    "used": (), "left": (), "greatest": (), "standing": (), "row": ("number",), "rooms": ("number",),
    "cells": ("way",), "get": ("way", "number"), "hands": (), "kept": ("number",),
}
PROGRAM_LINES = {
    "show": (), "free": ("choices",), "run": ("name", "number", "choices"), "look": (), "most": (), "unsafe": (),
    "placed": (), "framed": (),
}


def read_line(thing):
    """The first word and what the other ones stand for, as a list; an empty one where it has none of the forms."""
    if not isinstance(thing, str) or "\n" in thing:
        return []
    words = thing.split(" ")
    if "" in words:
        return []
    if words[0] == "program":
        return ["program", program_text(words[1:])]
    kinds = kinds_of(words[0])
    if kinds is None or len(kinds) != len(words) - 1:
        return []
    pairs = list(zip(kinds, words[1:]))
    if not all([fits_word(kind, word) for kind, word in pairs]):
        return []
    return words[:1] + [meant_by(kind, word) for kind, word in pairs]


def program_text(words):
    return " ".join(words).replace(" / ", "\n")


def kinds_of(word):
    if word == "house":
        return ("number",)
    return HOUSE_LINES.get(word, PROGRAM_LINES.get(word))


def fits_word(kind, word):
    if kind == "name":
        return is_name(word)
    if kind == "number":
        return is_whole_text(word)
    if kind == "choices":
        return word == "-" or all([sign in "yn" for sign in word])
    # A pair's text is the one with a colon.
    return is_value_text(word) and (kind == "value" or ":" in word)


def is_value_text(word):
    try:
        value_of(word)
    except NoValue:
        return False
    return True


def meant_by(kind, word):
    if kind == "name":
        return word
    if kind == "choices":
        return [] if word == "-" else [sign == "y" for sign in word]
    return value_of(word)


def row_text(texts):
    return " ".join(texts) if texts else "none"


def parts_text(texts):
    return " / ".join(texts) if texts else "none"


def values_text(values):
    return row_text([value_text(value) for value in values])


def telling_text(telling):
    if telling is True:
        return "yes"
    if telling is False:
        return "no"
    return telling if isinstance(telling, str) else value_text(telling)


def ending_text(ending):
    words = []
    for part in ending:
        words.extend([str(each) for each in part] if isinstance(part, tuple) else [str(part)])
    return " ".join(words)


def run_texts(run):
    """The parts that are told of each run: its tellings, and its ending."""
    return [row_text([telling_text(telling) for telling in run.told()]), ending_text(run.ending())]
