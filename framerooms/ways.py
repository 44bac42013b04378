"""What ways from outside lead to in a frame that is to end."""

from framerooms.errors import Kept, NoHands
from framerooms.words import is_name, is_number, is_pair


def ways_in(house, frame, hands):
    want_hands(house, frame, hands)
    part = house.part(frame)
    links = [("hand", name, value) for name, value in hands.items() if leads_in(value, part)]
    for number in house.standing():
        if number not in part:
            for way in house.rooms(number):
                links.extend(links_of(house, way, part))
    return links


def kept(house, frame, hands):
    rows = {}
    for link in ways_in(house, frame, hands):
        rows.setdefault(link[-1], [link])
    part = house.part(frame)
    found = list(rows)
    turn = 0
    # The list grows as it is gone through, so that rooms are looked at in the order in which they were found.
    while turn < len(found):
        row = rows[found[turn]]
        for link in links_of(house, found[turn], part):
            if link[-1] not in rows:
                rows[link[-1]] = row + [link]
                found.append(link[-1])
        turn += 1
    return rows


def finish_caught(house, frame, hands):
    ways = list(kept(house, frame, hands))
    if ways:
        raise Kept(ways)
    return house.finish(frame)


def shows_kept(house, frame, hands, way, thing):
    first = ways_in(house, frame, hands)
    if not is_pair(way) or not isinstance(thing, list) or not thing:
        return False
    # A truth equals a number to Python, so it is looked for ahead of all comparing.
    if not all([is_plain(link) for link in thing]) or thing[0] not in first:
        return False
    part = house.part(frame)
    for link, after in zip(thing, thing[1:]):
        if after not in links_of(house, link[-1], part):
            return False
    return thing[-1][-1] == way


def want_hands(house, frame, hands):
    house.want_finishing(frame)
    if not are_hands(house, hands):
        raise NoHands(hands)


def are_hands(house, thing):
    if not isinstance(thing, dict):
        return False
    return all([is_name(name) and house.is_value(value) for name, value in thing.items()])


def leads_in(value, part):
    """Of a value of the house, and the numbers of the frame and of those within it."""
    return isinstance(value, tuple) and value[0] in part


def links_of(house, holder, part):
    """The ways that lead in from the cells of one room."""
    return [("room", holder, k, value) for k, value in enumerate(house.cells(holder)) if leads_in(value, part)]


def is_plain(thing):
    """Whether it is a tuple of texts, numbers and pairs alone, as the links are."""
    if not isinstance(thing, tuple):
        return False
    return all([isinstance(each, str) or is_number(each) or is_pair(each) for each in thing])
