"""Names, tables, rooms and their stands."""

from seatword.kinds import is_tuple, is_within

LETTERS = "abcdefghijklmnopqrstuvwxyz"


def is_word(text):
    """Whether it is one or more small letters."""
    # Python's own islower lets other signs in.
    return len(text) >= 1 and all(sign in LETTERS for sign in text)


def is_name(thing):
    return isinstance(thing, str) and len(thing) <= 8 and is_word(thing)


def is_table(thing):
    return is_tuple(thing, 2, 2) and is_name(thing[0]) and is_within(thing[1], 1, 20)


def is_row(thing):
    return is_tuple(thing, 1, 6) and all(is_table(table) for table in thing)


def is_lost(thing):
    return is_within(thing, 0, 4)


def is_room(thing):
    if not is_tuple(thing, 2, 2):
        return False
    rows, lost = thing
    if not is_lost(lost) or not is_tuple(rows, 1, 4):
        return False
    if not all(is_row(row) for row in rows):
        return False
    names = tables_of(thing)
    return len(names) <= 8 and len(set(names)) == len(names)


def tables_of(room):
    return [name for row in room[0] for name, places in row]


def run_places(run, lost):
    return sum(places for name, places in run) - lost * (len(run) - 1)


def stands_with_places(room):
    """The stands in their order, each as (stand, places)."""
    rows, lost = room
    found = []
    for many in (1, 2, 3):
        for row in rows:
            for first in range(len(row) - many + 1):
                run = row[first:first + many]
                places = run_places(run, lost)
                if places >= 1:
                    found.append((tuple(table[0] for table in run), places))
    return found


def stands_of(room):
    return [stand for stand, places in stands_with_places(room)]


def places_of(room, stand):
    rows, lost = room
    return run_places([table for row in rows for table in row if table[0] in stand], lost)


def is_stand(room, thing):
    return thing in stands_of(room)


def do_meet(one, other):
    return any(table in other for table in one)
