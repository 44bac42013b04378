"""The forms of deeds, and what is told of bodies of them."""

from framerooms.errors import NoDeed
from framerooms.words import is_name, is_number, is_whole

OUTERMOST = "ground"

# By a deed's first word, of what kind each part behind it is.
FORMS = {
    "make": ("name", "size", "mark"),
    "put": ("name", "cell", "name"),
    "get": ("name", "name", "cell"),
    "set": ("name", "value"),
    "copy": ("name", "name"),
    "more": ("name", "name", "number"),
    "tell": ("name",),
    "same": ("name", "name"),
    "frame": ("label", "body"),
    "turns": ("label", "many", "times", "body"),
    "either": ("body", "body"),
}

# From which number to which one, both counted.
BOUNDS = {"size": (1, 6), "cell": (0, 5), "many": (1, 3), "times": (0, 4)}


def is_deed(thing):
    """Whether it has one of the forms, without a look at what stands in its bodies."""
    if not isinstance(thing, tuple) or not thing or not isinstance(thing[0], str):
        return False
    if thing[0] not in FORMS or len(thing) != 1 + len(FORMS[thing[0]]):
        return False
    return all([fits(kind, part) for kind, part in parts_of(thing)])


def fits(kind, thing):
    if kind == "name":
        return is_name(thing)
    if kind == "label":
        return is_name(thing) and thing != OUTERMOST
    if kind == "mark":
        return thing is None or is_name(thing)
    if kind == "value":
        return thing is None or is_number(thing)
    if kind == "number":
        return is_number(thing)
    if kind == "body":
        return isinstance(thing, (list, tuple))
    return is_whole(thing, BOUNDS[kind][0], BOUNDS[kind][1])


def parts_of(deed):
    """The parts behind its word, each behind its kind."""
    return list(zip(FORMS[deed[0]], deed[1:]))


def bodies_of(deed):
    return [part for kind, part in parts_of(deed) if kind == "body"]


def names_of(deed):
    return [part for kind, part in parts_of(deed) if kind == "name"]


def is_block(deed):
    return "label" in FORMS[deed[0]]


def want_body(thing):
    """Refuses the first thing that is no deed, in the order of reading."""
    if not fits("body", thing):
        raise NoDeed(thing)
    for deed in thing:
        if not is_deed(deed):
            raise NoDeed(deed)
        for body in bodies_of(deed):
            want_body(body)


def many_in(body):
    """How many deeds there are, those in bodies too."""
    many = len(body)
    for deed in body:
        for inner in bodies_of(deed):
            many += many_in(inner)
    return many


def depth_of(body):
    """How many deeds with bodies stand within one another."""
    depth = 0
    for deed in body:
        for inner in bodies_of(deed):
            depth = max(depth, 1 + depth_of(inner))
    return depth


def rewritten(body, change, first=0):
    """The deeds that change tells, in the place of each one: of its number, and of it with its bodies rewritten.

    The deeds are numbered from first on, and all bodies are tuples.
    """
    told = []
    number = first
    for deed in body:
        told.extend(change(number, with_bodies(deed, change, number + 1)))
        number += many_in((deed,))
    return tuple(told)


def with_bodies(deed, change, first):
    parts = [deed[0]]
    number = first
    for kind, part in parts_of(deed):
        if kind == "body":
            parts.append(rewritten(part, change, number))
            number += many_in(part)
        else:
            parts.append(part)
    return tuple(parts)


def with_parts(deed, change):
    """The deed with each of its parts put as change tells of its kind and of it."""
    return (deed[0],) + tuple([change(kind, part) for kind, part in parts_of(deed)])


def with_label(deed, label):
    """The deed, with this label where it is a making."""
    return deed[:3] + (label,) if deed[0] == "make" else deed


def listing(body, around):
    """Each deed with the labels around it, the innermost first, in the order of reading."""
    listed = []
    for deed in body:
        listed.append((deed, around))
        inner = (deed[1],) + around if is_block(deed) else around
        for within in bodies_of(deed):
            listed.extend(listing(within, inner))
    return listed


def widest_of(body):
    """How many choices are asked at most, if no run is stopped."""
    return sum([choices_of(deed) for deed in body])


def choices_of(deed):
    asked = [widest_of(body) for body in bodies_of(deed)]
    if deed[0] == "either":
        return 1 + max(asked)
    if deed[0] == "turns":
        return deed[3] * asked[0]
    return sum(asked)


def longest_of(body):
    """How many steps there are at most, if no run is stopped."""
    return sum([length_of(deed) for deed in body])


def length_of(deed):
    steps = [longest_of(body) for body in bodies_of(deed)]
    if deed[0] == "either":
        return 1 + max(steps)
    if deed[0] == "turns":
        # The end of the block is a step of its own.
        return deed[3] * (1 + steps[0]) + 1
    if deed[0] == "frame":
        return 1 + steps[0] + 1
    return 1
