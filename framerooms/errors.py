"""The refusals: each is a class of its own, straight under RoomError."""

# No refusal puts what it holds into its words: that may be any thing, and
# nothing may go wrong in telling of it.


class RoomError(ValueError):
    """Any refusal."""

    def __init__(self, text):
        ValueError.__init__(self, text)


class NoNumber(RoomError):
    """What is no whole number, or none that is allowed here."""

    def __init__(self, found):
        RoomError.__init__(self, "this is no number that is wanted here")
        self.found = found


class NoName(RoomError):
    """What is no name."""

    def __init__(self, found):
        RoomError.__init__(self, "this is no name")
        self.found = found


class NoValue(RoomError):
    """What is no value, or no text of one."""

    def __init__(self, found):
        RoomError.__init__(self, "this is no value")
        self.found = found


class NoFrame(RoomError):
    """What is no number of a frame that was begun."""

    def __init__(self, found):
        RoomError.__init__(self, "no such frame was begun")
        self.found = found


class Gone(RoomError):
    """A frame that has ended, or what lay in one, and the frame that was ended to take it."""

    def __init__(self, found, by):
        RoomError.__init__(self, "the frame has ended")
        self.found = found
        self.by = by


class Ground(RoomError):
    """The ground, which never ends."""

    def __init__(self):
        RoomError.__init__(self, "the ground never ends")


class TooMany(RoomError):
    """So many that they are more than there may be."""

    def __init__(self, many):
        RoomError.__init__(self, "these are too many")
        self.many = many


class Full(RoomError):
    """How many cells are asked for, and how many are left."""

    def __init__(self, need, spare):
        RoomError.__init__(self, "fewer cells are left than are asked for")
        self.need = need
        self.spare = spare


class NoWay(RoomError):
    """What is no way that the house has given."""

    def __init__(self, found):
        RoomError.__init__(self, "the house has given no such way")
        self.found = found


class NoCell(RoomError):
    """What is no number of a cell of the room."""

    def __init__(self, found):
        RoomError.__init__(self, "the room has no such cell")
        self.found = found


class NoHands(RoomError):
    """What is no dict from names to values."""

    def __init__(self, found):
        RoomError.__init__(self, "these are no hands")
        self.found = found


class Kept(RoomError):
    """The ways of the rooms that are still kept from outside."""

    def __init__(self, ways):
        RoomError.__init__(self, "rooms of the frame are kept from outside")
        self.ways = ways


class NoDeed(RoomError):
    """What is no deed."""

    def __init__(self, found):
        RoomError.__init__(self, "this is no deed")
        self.found = found


class TooDeep(RoomError):
    """So many deeds with bodies within one another that they are too many."""

    def __init__(self, depth):
        RoomError.__init__(self, "the deeds stand too deep")
        self.depth = depth


class TooWide(RoomError):
    """So many choices that they are more than a run may ask."""

    def __init__(self, many):
        RoomError.__init__(self, "a run asks too many choices")
        self.many = many


class TooLong(RoomError):
    """So many steps that they are more than a run may have."""

    def __init__(self, many):
        RoomError.__init__(self, "a run has too many steps")
        self.many = many


class Twice(RoomError):
    """A label of a block that has one of the same label around it."""

    def __init__(self, label):
        RoomError.__init__(self, "a block around has the same label")
        self.label = label


class NoLabel(RoomError):
    """A making's label that is not around it."""

    def __init__(self, label):
        RoomError.__init__(self, "no such label is around the making")
        self.label = label


class NoChoices(RoomError):
    """What is no list or tuple of truths."""

    def __init__(self, found):
        RoomError.__init__(self, "these are no choices")
        self.found = found


class NoMaking(RoomError):
    """What is no number of a making."""

    def __init__(self, found):
        RoomError.__init__(self, "no making has this number")
        self.found = found


class NotStraight(RoomError):
    """The number of a deed that has bodies, where none may."""

    def __init__(self, number):
        RoomError.__init__(self, "a deed has bodies")
        self.number = number


class NoText(RoomError):
    """The number of the first line that can't stand."""

    def __init__(self, line):
        RoomError.__init__(self, "a line can't stand in a program")
        self.line = line


class NoManner(RoomError):
    """What is none of the manners in which a program is run."""

    def __init__(self, found):
        RoomError.__init__(self, "this is no manner")
        self.found = found


class NoNames(RoomError):
    """What can't stand for the names that are wanted, or is no name that is known."""

    def __init__(self, found):
        RoomError.__init__(self, "these are not the names that are wanted")
        self.found = found


class NoLine(RoomError):
    """What is no line that a desk knows."""

    def __init__(self, found):
        RoomError.__init__(self, "this is no line")
        self.found = found


class NoHouse(RoomError):
    """A line that wants a house, where there is none."""

    def __init__(self):
        RoomError.__init__(self, "there is no house")


class NoProgram(RoomError):
    """A line that wants a program, where there is none."""

    def __init__(self):
        RoomError.__init__(self, "there is no program")
