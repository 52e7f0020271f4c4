"""Crowds: more parties at an hour than tables of which each stand for them has one."""

from seatword.sheets import share_hours, span_of
from seatword.views import Hall, stands_for, view_of


def crossing_of(hall, guests, gone):
    """The bits of the fewest tables that meet all stands for so many guests which none of the gone tables is in."""
    free = stands_for(hall, guests, gone)
    crossing = 0
    # Stands are runs, and later tables have greater bits, so the stands come here by their last tables: of one that
    # is not met yet the last table meets whatever later stands another of its tables would.
    for run in sorted(bits for stand, bits in free):
        if not run & crossing:
            crossing |= 1 << (run.bit_length() - 1)
    return crossing


def tables_across(hall, guests, gone):
    """The tables of the crossing, rising; each is reckoned once."""
    asked = (guests, gone)
    if asked not in hall.crossings:
        crossing = crossing_of(hall, guests, gone)
        hall.crossings[asked] = tuple(sorted(table for table in hall.bits if hall.bits[table] & crossing))
    return hall.crossings[asked]


def guests_at(waiting, hour):
    """The numbers of guests of those that are there at the hour, falling."""
    return sorted([party[1] for party in waiting if share_hours(span_of(party), (hour, 1))], reverse=True)


def crowd_in(hall, view):
    """A crowd that bars the view, or None."""
    taken, waiting, wrong = view
    for hour, gone in enumerate(taken):
        # Between the numbers of guests that parties have no more parties count, and no fewer stands do.
        for at, guests in enumerate(guests_at(waiting, hour)):
            tables = tables_across(hall, guests, gone)
            if at + 1 > len(tables):
                return ("crowd", hour, guests, tables)
    return None


def crowd_of(room, sheet):
    hall = Hall(room)
    return crowd_in(hall, view_of(hall, sheet))
