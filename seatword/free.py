"""Which stands are free at some hours, and which are open to a party."""

from seatword.rooms import do_meet, stands_with_places
from seatword.sheets import party_of, seat_of, share_hours, span_of


def taken_tables(sheet, span, but):
    """The tables that are shut or sat at in some hour of the span; the seat of the party called but is left out."""
    taken = [table for table, begin, stay in sheet[1] if share_hours(span, (begin, stay))]
    for name, stand in sheet[3]:
        if name != but and share_hours(span, span_of(party_of(sheet, name))):
            taken.extend(stand)
    return taken


def free_stands(room, guests, taken):
    """The stands with places for so many, none of their tables among the taken ones."""
    return [stand for stand, places in stands_with_places(room) if places >= guests and not do_meet(stand, taken)]


def open_stands(room, sheet, name):
    party = party_of(sheet, name)
    seat = seat_of(sheet, name)
    free = free_stands(room, party[1], taken_tables(sheet, span_of(party), name))
    return [stand for stand in free if seat is None or seat == stand]


def is_open(room, sheet, name, stand):
    return stand in open_stands(room, sheet, name)
