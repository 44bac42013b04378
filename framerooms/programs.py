"""Programs of deeds, and what is told of them ahead of all runs."""

from framerooms.deeds import (
    OUTERMOST, depth_of, is_block, listing, longest_of, many_in, names_of, rewritten, want_body, widest_of,
)
from framerooms.errors import NoLabel, NoMaking, TooDeep, TooLong, TooMany, TooWide, Twice
from framerooms.words import is_whole

MOST_DEEDS = 40
MOST_DEPTH = 6
MOST_CHOICES = 4
MOST_STEPS = 100


class Program:
    """A body of deeds that keeps to all bounds."""

    def __init__(self, deeds):
        want_body(deeds)
        want_size(deeds)
        self.body = rewritten(deeds, lambda number, deed: [deed])
        # By the number of each deed, it and the labels around it.
        self.listed = listing(self.body, (OUTERMOST,))
        want_labels(self.listed)
        want_runs(self.body)

    def told(self):
        return self.body

    def deeds(self):
        return len(self.listed)

    def names(self):
        found = {}
        for deed, around in self.listed:
            for name in names_of(deed):
                found[name] = True
        return list(found)

    def makings(self):
        return [number for number, row in enumerate(self.listed) if row[0][0] == "make"]

    def around(self, number):
        # Asked ahead of the list: a truth equals a number to Python.
        if not is_whole(number, 0, len(self.listed)) or number not in self.makings():
            raise NoMaking(number)
        return list(self.listed[number][1])

    def widest(self):
        return widest_of(self.body)

    def longest(self):
        return longest_of(self.body)


def want_size(body):
    many = many_in(body)
    if many > MOST_DEEDS:
        raise TooMany(many)
    depth = depth_of(body)
    if depth > MOST_DEPTH:
        raise TooDeep(depth)


def want_labels(listed):
    """Refuses the first label, in the order of reading, that stands twice or isn't around."""
    for deed, around in listed:
        if is_block(deed) and deed[1] in around:
            raise Twice(deed[1])
        if deed[0] == "make" and deed[3] is not None and deed[3] not in around:
            raise NoLabel(deed[3])


def want_runs(body):
    many = widest_of(body)
    if many > MOST_CHOICES:
        raise TooWide(many)
    steps = longest_of(body)
    if steps > MOST_STEPS:
        raise TooLong(steps)
