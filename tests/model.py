"""Another way to run programs, to hold the package's runs against: things are objects, frames hold them."""

import itertools


class Frame:
    def __init__(self, parent):
        self.parent = parent
        self.ended = None
        self.things = []


class Thing:
    def __init__(self, number, size, making, step):
        self.number = number
        self.cells = [None] * size
        self.making = making
        self.made = step
        self.last = None
        self.gone = None
        self.frame = None
        # By each label around its making, the frame in which it would lie.
        self.places = None


class Stop(Exception):
    pass


def with_bodies(deed):
    """The places of a deed's bodies in its tuple."""
    return {"frame": (2,), "turns": (4,), "either": (1, 2)}.get(deed[0], ())


def numbering(deeds):
    """A dict from the path to each deed (places in bodies and tuples) to its number."""
    numbers = {}
    counter = itertools.count()

    def go(body, path):
        for place, deed in enumerate(body):
            numbers[path + (place,)] = next(counter)
            for part in with_bodies(deed):
                go(deed[part], path + (place, part))

    go(deeds, ())
    return numbers


def flat(deeds):
    """All deeds in the order of reading."""
    found = []
    for deed in deeds:
        found.append(deed)
        for part in with_bodies(deed):
            found.extend(flat(deed[part]))
    return found


class Model:
    """A run by choices: free where there is no limit, else in frames."""

    def __init__(self, deeds, choices, limit=None, manner=None):
        self.numbers = numbering(deeds)
        self.choices = iter(choices)
        self.limit, self.manner = limit, manner
        self.ground = Frame(None)
        self.blocks = [("ground", self.ground)]
        self.names = {}
        self.told, self.deeds, self.taken, self.things, self.touches, self.used = [], [], [], [], [], []
        self.ending = ("done",)
        try:
            self.body(deeds, ())
        except Stop as e:
            self.ending = e.args[0]
            self.close()

    # Steps.

    def enter(self, path):
        self.deeds.append(self.numbers[path])
        self.at = len(self.deeds) - 1

    def close(self):
        self.used.append(sum(len(thing.cells) for thing in self.things if thing.gone is None))

    def stop(self, word, *more):
        raise Stop((word, self.at, self.deeds[-1]) + more)

    # Deeds.

    def body(self, body, path):
        for place, deed in enumerate(body):
            getattr(self, "do_" + deed[0])(path + (place,), *deed[1:])

    def do_frame(self, path, label, body):
        self.enter(path)
        frame = Frame(self.blocks[-1][1])
        self.close()
        self.blocks.append((label, frame))
        self.body(body, path + (2,))
        self.blocks.pop()
        self.enter(path)
        self.finish(frame)
        self.close()

    def do_turns(self, path, label, many, times, body):
        frames = []
        for turn in range(times):
            self.enter(path)
            if len(frames) == many:
                self.finish(frames.pop(0))
            frames.append(Frame(self.blocks[-1][1]))
            self.close()
            self.blocks.append((label, frames[-1]))
            self.body(body, path + (4,))
            self.blocks.pop()
        self.enter(path)
        while frames:
            self.finish(frames.pop())
        self.close()

    def do_either(self, path, first, second):
        self.enter(path)
        choice = next(self.choices, False)
        self.taken.append(choice)
        self.close()
        self.body(first if choice else second, path + (1 if choice else 2,))

    def do_make(self, path, name, size, label):
        self.enter(path)
        if self.limit is not None:
            left = self.limit - sum(len(thing.cells) for thing in self.things if thing.gone is None)
            if size > left:
                self.stop("full", left)
        thing = Thing(len(self.things), size, self.deeds[-1], self.at)
        thing.frame = self.blocks[-1][1] if label is None else dict(self.blocks)[label]
        thing.frame.things.append(thing)
        thing.places = dict(self.blocks)
        self.things.append(thing)
        self.names[name] = thing
        self.close()

    def touch(self, name, k):
        thing = self.names.get(name)
        if not isinstance(thing, Thing):
            self.stop("stopped", "thing", name)
        if k >= len(thing.cells):
            self.stop("stopped", "cell", k)
        if thing.gone is not None:
            self.stop("gone", thing.number)
        thing.last = self.at
        self.touches.append((self.at, thing.number))
        return thing

    def do_put(self, path, name, k, other):
        self.enter(path)
        self.touch(name, k).cells[k] = self.names.get(other)
        self.close()

    def do_get(self, path, name, other, k):
        self.enter(path)
        self.names[name] = self.touch(other, k).cells[k]
        self.close()

    def do_set(self, path, name, value):
        self.enter(path)
        self.names[name] = value
        self.close()

    def do_copy(self, path, name, other):
        self.enter(path)
        self.names[name] = self.names.get(other)
        self.close()

    def do_more(self, path, name, other, n):
        self.enter(path)
        if not isinstance(self.names.get(other), int):
            self.stop("stopped", "number", other)
        self.names[name] = self.names[other] + n
        self.close()

    def do_tell(self, path, name):
        self.enter(path)
        value = self.names.get(name)
        self.told.append("thing" if isinstance(value, Thing) else value)
        self.close()

    def do_same(self, path, name, other):
        self.enter(path)
        one, two = self.names.get(name), self.names.get(other)
        self.told.append(one is two if isinstance(one, Thing) else one == two)
        self.close()

    # The ends of frames.

    def kept(self, frame):
        """The things of a frame that are reached from names and from other things that have room."""
        outside = [thing for thing in self.things if thing.gone is None and thing.frame is not frame]
        row = list(self.names.values()) + [held for thing in outside for held in thing.cells]
        found = []
        while row:
            held = row.pop()
            if isinstance(held, Thing) and held.gone is None and held.frame is frame and held not in found:
                found.append(held)
                row.extend(held.cells)
        return found

    def finish(self, frame):
        if self.manner is None:
            frame.ended = self.at
            return
        kept = self.kept(frame)
        if self.manner == "caught" and kept:
            self.stop("kept", tuple(sorted(thing.number for thing in kept)))
        for thing in frame.things:
            if self.manner == "moved" and thing in kept:
                thing.frame = frame.parent
                frame.parent.things.append(thing)
            else:
                thing.gone = self.at

    def late(self, making, label):
        """Of a run with room without end the steps at which a thing of the making is touched behind the end of the
        frame of this label."""
        found = []
        for at, number in self.touches:
            thing = self.things[number]
            if thing.making == making and thing.places[label].ended is not None and thing.places[label].ended < at:
                found.append(at)
        return found

    # What runs tell.

    def free(self):
        """All that a run with room without end tells."""
        things = [(thing.making, len(thing.cells), thing.made) for thing in self.things]
        return (self.told, self.ending, len(self.deeds), self.deeds, self.taken, things, self.touches)

    def framed(self):
        """All that a run in frames tells."""
        stays = [(thing.made, thing.last, thing.gone) for thing in self.things]
        most = max(self.used, default=0)
        greatest = (most, self.used.index(most) if self.used else None)
        return (self.told, self.ending, len(self.deeds), self.used, greatest, stays)
