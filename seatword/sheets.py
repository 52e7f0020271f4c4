"""Spans of hours, and the sheets of a room: its shuts, parties and seats."""

from seatword.kinds import is_rising, is_tuple, is_whole, is_within
from seatword.rooms import is_name, stands_of, tables_of

MOST_GUESTS = 60
MOST_PARTIES = 8
MOST_SHUTS = 12


def is_span(hours, begin, stay):
    if not is_whole(begin) or not is_whole(stay):
        return False
    return begin >= 0 and stay >= 1 and begin + stay <= hours


def share_hours(one, other):
    return one[0] < other[0] + other[1] and other[0] < one[0] + one[1]


def is_shut(tables, hours, thing):
    return is_tuple(thing, 3, 3) and thing[0] in tables and is_span(hours, thing[1], thing[2])


def is_ask(hours, guests, begin, stay):
    """Whether so many guests may ask for this span."""
    return is_within(guests, 1, MOST_GUESTS) and is_span(hours, begin, stay)


def is_party(hours, thing):
    if not is_tuple(thing, 4, 4):
        return False
    name, guests, begin, stay = thing
    return is_name(name) and is_ask(hours, guests, begin, stay)


def is_seat(names, stands, thing):
    return is_tuple(thing, 2, 2) and thing[0] in names and thing[1] in stands


def are_shuts(room, hours, thing):
    tables = tables_of(room)
    return is_tuple(thing, 0, MOST_SHUTS) and all(is_shut(tables, hours, shut) for shut in thing)


def are_parties(hours, thing):
    if not is_tuple(thing, 0, MOST_PARTIES) or not all(is_party(hours, party) for party in thing):
        return False
    return is_rising(names_in(thing))


def are_seats(room, names, thing):
    """Whether thing is a tuple of seats of some of these names, rising."""
    stands = stands_of(room)
    if not is_tuple(thing, 0, len(names)) or not all(is_seat(names, stands, seat) for seat in thing):
        return False
    return is_rising(names_in(thing))


def is_sheet(room, thing):
    if not is_tuple(thing, 4, 4):
        return False
    hours, shuts, parties, seats = thing
    if not is_within(hours, 1, 12) or not are_shuts(room, hours, shuts):
        return False
    return are_parties(hours, parties) and are_seats(room, names_in(parties), seats)


def name_of(row):
    """The name of a party or a seat."""
    return row[0]


def names_in(rows):
    return [name_of(row) for row in rows]


def by_names(rows):
    return tuple(sorted(rows, key=name_of))


def without_name(rows, name):
    return tuple(row for row in rows if name_of(row) != name)


def span_of(party):
    return (party[2], party[3])


def party_of(sheet, name):
    return [party for party in sheet[2] if name_of(party) == name][0]


def stand_in(seats, name):
    """The stand that these seats have for the name, or None."""
    for one, stand in seats:
        if one == name:
            return stand
    return None


def seat_of(sheet, name):
    return stand_in(sheet[3], name)


def with_seat(sheet, name, stand):
    hours, shuts, parties, seats = sheet
    return (hours, shuts, parties, by_names(seats + ((name, stand),)))


def with_party(sheet, party):
    hours, shuts, parties, seats = sheet
    return (hours, shuts, by_names(parties + (party,)), seats)


def with_shut(sheet, shut):
    hours, shuts, parties, seats = sheet
    return (hours, shuts + (shut,), parties, seats)


def with_stay(sheet, name, stay):
    """The sheet in which this party has another stay."""
    hours, shuts, parties, seats = sheet
    changed = tuple(row[:3] + (stay,) if name_of(row) == name else row for row in parties)
    return (hours, shuts, changed, seats)


def without_party(sheet, name):
    hours, shuts, parties, seats = sheet
    return (hours, shuts, without_name(parties, name), without_name(seats, name))
