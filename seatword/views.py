"""Sheets seen as bits: what is taken at each hour, and who waits for a stand. Quick for who goes through many cases.

A view is a tuple (taken, waiting, wrong): for each hour the bits of the tables that are shut or sat at; the parties
that have no seat; the names of those that have one which is not open to them.
"""

from seatword.free import is_open
from seatword.rooms import stands_with_places, tables_of
from seatword.sheets import party_of, seat_of, span_of, without_name


class Hall:
    """A room: the bit of each table, its stands as (stand, places, bits), and the tables that were found for crowds."""

    def __init__(self, room):
        bits = {table: 1 << at for at, table in enumerate(tables_of(room))}
        self.room = room
        self.bits = bits
        self.stands = [(stand, places, bits_of(bits, stand)) for stand, places in stands_with_places(room)]
        self.crossings = {}


def bits_of(bits, tables):
    return sum(bits[table] for table in tables)


def take(taken, span, bits):
    """What is taken where these tables are, too, for the span."""
    begin, stay = span
    end = begin + stay
    return taken[:begin] + tuple(gone | bits for gone in taken[begin:end]) + taken[end:]


def view_of(hall, sheet):
    hours, shuts, parties, seats = sheet
    taken = (0,) * hours
    for table, begin, stay in shuts:
        taken = take(taken, (begin, stay), hall.bits[table])
    for name, stand in seats:
        taken = take(taken, span_of(party_of(sheet, name)), bits_of(hall.bits, stand))
    waiting = tuple(party for party in parties if seat_of(sheet, party[0]) is None)
    wrong = tuple(name for name, stand in seats if not is_open(hall.room, sheet, name, stand))
    return (taken, waiting, wrong)


def seat_in(view, party, bits):
    """The view in which this party, that waits, has a stand of these bits, one that is open to it."""
    taken, waiting, wrong = view
    # A stand that is open meets no seat, so it makes no other seat a wrong one.
    return (take(taken, span_of(party), bits), without_name(waiting, party[0]), wrong)


def stands_for(hall, guests, gone):
    """The stands with so many places, none of their tables among the gone ones, each as (stand, bits)."""
    return [(stand, bits) for stand, places, bits in hall.stands if places >= guests and not bits & gone]


def stands_to(hall, view, party):
    """The stands that are open to a party that waits, each as (stand, bits)."""
    begin, stay = span_of(party)
    gone = 0
    for bits in view[0][begin:begin + stay]:
        gone |= bits
    return stands_for(hall, party[1], gone)
