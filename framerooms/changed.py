"""Programs that are like another one, but for names, labels, numbers or an idle deed."""

from framerooms.deeds import OUTERMOST, is_block, rewritten, with_parts
from framerooms.errors import NoName, NoNames, NoNumber, NoValue
from framerooms.programs import Program
from framerooms.words import is_name, is_number, is_whole


def renamed(program, names):
    if not is_exchange(names, program.names()):
        raise NoNames(names)
    return with_all(program, lambda kind, part: names[part] if kind == "name" else part)


def relabelled(program, labels):
    if not is_exchange(labels, labels_of(program)) or OUTERMOST in list(labels.values()):
        raise NoNames(labels)
    # What is no block's label, None or that of the ground, is left.
    return with_all(program, lambda kind, part: labels.get(part, part) if kind in ("label", "mark") else part)


def shifted(program, n):
    if not is_number(n):
        raise NoNumber(n)
    return with_all(program, lambda kind, part: part + n if kind == "value" and part is not None else part)


def idled(program, number, name, value):
    if not is_whole(number, 0, program.deeds() - 1):
        raise NoNumber(number)
    if not is_name(name):
        raise NoName(name)
    if value is not None and not is_number(value):
        raise NoValue(value)
    if name in program.names():
        raise NoNames(name)
    idle = ("set", name, value)
    return Program(rewritten(program.told(), lambda at, deed: [idle, deed] if at == number else [deed]))


def with_all(program, change):
    """The program with each part of each deed put as change tells of its kind and of it."""
    return Program(rewritten(program.told(), lambda number, deed: [with_parts(deed, change)]))


def labels_of(program):
    return [deed[1] for deed, around in program.listed if is_block(deed)]


def is_exchange(thing, wanted):
    """Whether it is a dict from just what is wanted to names, no two alike."""
    if not isinstance(thing, dict):
        return False
    if not all([is_name(key) and is_name(value) for key, value in thing.items()]):
        return False
    values = list(thing.values())
    return sorted(thing) == sorted(set(wanted)) and len(set(values)) == len(values)
