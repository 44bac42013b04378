"""Frames that are finished while what is kept is moved out of them."""

from framerooms.frames import GROUND
from framerooms.ways import kept
from framerooms.words import is_number, is_pair


def finish_moved(house, frame, hands):
    elder = dict([(way, house.cells(way)) for way in kept(house, frame, hands)])
    around = house.inside(frame)
    ended = house.finish(frame)
    # What has ended left at least as many cells as are wanted now, so there is always room.
    moved = dict([(way, house.make(around, len(room))) for way, room in elder.items()])
    for way, room in elder.items():
        for k, value in enumerate(room):
            house.put(moved[way], k, value)
    lead_on(house, moved)
    held = dict([(name, moved.get(value, value)) for name, value in hands.items()])
    return (ended, moved, held)


def lead_on(house, moved):
    """Lets every cell that has the way of a moved room have its new way."""
    for number in house.standing():
        for way in house.rooms(number):
            for k, value in enumerate(house.cells(way)):
                if value in moved:
                    house.put(way, k, moved[value])


def is_moved(before, after, frame, moved):
    around = frames_of(before)
    if not is_number(frame) or frame == GROUND or frame not in around:
        return False
    part = part_of(around, frame)
    if before[0] != after[0] or frames_of(after) != less(around, part):
        return False
    elder = rooms_of(before)
    newer = rooms_of(after)
    given = len(ways_of(elder, around[frame]))
    if not is_way_out(moved, elder, part, ways_of(newer, around[frame])[given:]):
        return False
    return are_carried(elder, newer, part, moved)


def frames_of(picture):
    """A dict from the frames of a picture to those straight around them."""
    return dict([(number, around) for number, around, rooms in picture[1]])


def rooms_of(picture):
    """A dict from the ways of a picture's rooms to what their cells hold."""
    found = {}
    for number, around, rooms in picture[1]:
        place = 0
        for room in rooms:
            found[(number, place)] = room
            place += len(room)
    return found


def ways_of(rooms, frame):
    return [way for way in rooms if way[0] == frame]


def part_of(around, frame):
    """The frame and all that stand within it, as a dict of True."""
    part = {frame: True}
    # A picture's frames rise, so the one around comes ahead of those within it.
    for number in around:
        if around[number] in part:
            part[number] = True
    return part


def less(around, part):
    return dict([(number, holder) for number, holder in around.items() if number not in part])


def is_way_out(thing, elder, part, fresh):
    """Whether it is a dict from ways of rooms in the part to all the fresh ways, each once."""
    if not isinstance(thing, dict):
        return False
    # A truth equals a number to Python, so it is looked for ahead of all comparing.
    if not all([is_pair(way) and way[0] in part and way in elder for way in thing]):
        return False
    return all([is_pair(way) for way in thing.values()]) and sorted(thing.values()) == fresh


def are_carried(elder, newer, part, moved):
    """Whether the newer rooms are just the elder ones that stay and the moved ones, and hold what they must."""
    sources = dict([(way, way) for way in elder if way[0] not in part])
    for way, fresh in moved.items():
        sources[fresh] = way
    if sorted(sources) != sorted(newer):
        return False
    for way, room in newer.items():
        if list(room) != [moved.get(value, value) for value in elder[sources[way]]]:
            return False
        if any([value in elder and value[0] in part for value in room]):
            return False
    return True
