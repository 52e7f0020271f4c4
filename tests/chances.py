"""Deeds of all sorts for a model of an evening, most of them such as may be done."""

from great import NAMES
from model import WORDS
from things import ANYTHING

# Two tables that cannot be pushed together.
PAIR = (((("a", 2), ("b", 4)),), 4)

# An evening of that room, of four hours and a grace of 1, in which each word is a deed at least once.
DEEDS = [("shut", "a", 0, 1), ("book", "anna", 2, 0, 3), ("unshut", "a", 0, 1), ("book", "bob", 4, 0, 2),
         ("change", "anna", 1, 0, 4), ("hold", "anna", 2), ("come", "bob"), ("wait", "carl", 4, 1),
         ("wait", "dora", 2, 2), ("leave", "bob"), ("call",), ("give_up", "dora"), ("go_on",), ("walk", "emil", 4, 1),
         ("longer", "emil", 1), ("shut", "b", 3, 1), ("go_on",), ("cancel", "anna"), ("book", "anna", 1, 3, 1),
         ("go_on",)]

OFTEN = list(WORDS) + ["book"] * 6 + ["come"] * 3 + ["walk", "change", "shut", "wait", "call", "longer"]


def some_things(chance, model, word):
    names = NAMES + ["ida", "kai", "yves", "zoe"]
    known = sorted(model.parties) or names
    line = [row[0] for row in model.line] or names
    tables = model.tables()
    guests = chance.choice((1, 1, 2, 2, 3, 4, 5, 7))
    begin = min(chance.randint(model.now, model.now + 3), model.hours - 1)
    stay = chance.randint(1, max(1, min(4, model.hours - begin)))
    walk_stay = chance.randint(1, max(1, min(4, model.hours - model.now)))
    shut = (chance.choice(tables), begin, stay)
    return {"book": (chance.choice(names), guests, begin, stay),
            "change": (chance.choice(known), guests, begin, stay),
            "shut": shut, "unshut": chance.choice(model.shuts) if model.shuts else shut,
            "walk": (chance.choice(names), guests, walk_stay),
            "longer": (chance.choice(known), chance.randint(1, 2)),
            "hold": (chance.choice(known), chance.randint(1, 3)), "give_up": (chance.choice(line),),
            "wait": (chance.choice(names), guests, walk_stay), "call": (), "go_on": ()
            }.get(word, (chance.choice(known),))


def spoil(chance, things, others):
    """One of the things, or two, otherwise."""
    spoilt = list(things)
    for step in range(chance.randint(1, 2)):
        spoilt[chance.randrange(len(things))] = chance.choice(others)
    return tuple(spoilt)


def some_deed(chance, model, share=0.15, others=ANYTHING + [3, 11, 12, 13, 61, "zoe", "c", "bob"]):
    """A word and its things; such a share of them with one or two of the others amid."""
    word = chance.choice(OFTEN)
    # Hours that go on too fast leave little to do.
    while word == "go_on" and chance.random() < 0.5:
        word = chance.choice(OFTEN)
    things = some_things(chance, model, word)
    if things and chance.random() < share:
        things = spoil(chance, things, others)
    return (word,) + things
