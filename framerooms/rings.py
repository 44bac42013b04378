"""Rings: so many frames at most, of which the eldest goes where one more is begun."""

from framerooms.errors import NoNumber
from framerooms.words import is_whole

MOST_OF_RING = 4


class Ring:
    """The frames that were begun by its turns, straight within one frame of a house."""

    def __init__(self, house, frame, many):
        house.want_standing(frame)
        if not is_whole(many, 1, MOST_OF_RING):
            raise NoNumber(many)
        self.house = house
        self.frame = frame
        self.many = many
        # Ended ones too: only the house knows which of them still stand.
        self.turned = []

    def turn(self):
        # Asked ahead of all change: where no frame can be begun, the eldest must stay.
        self.house.want_beginning(self.frame)
        ended = []
        standing = self.frames()
        if len(standing) == self.many:
            ended = self.house.finish(standing[0])
        number = self.house.begin(self.frame)
        self.turned.append(number)
        return (number, ended)

    def frames(self):
        return [number for number in self.turned if self.house.stands(number)]

    def last(self):
        standing = self.frames()
        return standing[-1] if standing else None
