"""Rooms of eight tables and sheets of up to eight parties, the same ones each time."""

import time

from small import some_span

NAMES = ["anna", "bob", "carl", "dora", "emil", "finn", "gerd", "hans"]
SHAPES = [(4, 4), (6, 2), (5, 3), (2, 2, 2, 2), (3, 3, 2), (1, 6, 1), (4, 2, 2)]

# Eight tables in one long row and one short one, that are alike, and cannot be pushed together.
ALIKE = ((tuple((name, 1) for name in "abcdef"), (("g", 1), ("h", 1))), 4)


def great_room(chance):
    names = list("abcdefgh")
    chance.shuffle(names)
    rows = []
    for many in chance.choice(SHAPES):
        rows.append(tuple((names.pop(), chance.randint(1, 6)) for step in range(many)))
    return (tuple(rows), chance.randint(0, 3))


def great_sheet(chance, room, hours, most, many=8):
    """A sheet of so many parties of at most so many guests each, and of up to three shuts."""
    tables = [table[0] for row in room[0] for table in row]
    shuts = tuple((chance.choice(tables),) + some_span(chance, hours) for step in range(chance.randint(0, 3)))
    parties = tuple((name, chance.randint(1, most)) + some_span(chance, hours) for name in NAMES[:many])
    return (hours, shuts, parties, ())


def parties_alike(many, guests, begin, stay):
    return tuple((name, guests, begin, stay) for name in NAMES[:many])


class Soon:
    """Fails where what is done within lasts far longer than it ought to."""

    def __init__(self, test, seconds):
        self.test = test
        self.seconds = seconds

    def __enter__(self):
        self.began = time.monotonic()

    def __exit__(self, kind, value, trace):
        if kind is None:
            self.test.assertLess(time.monotonic() - self.began, self.seconds)
