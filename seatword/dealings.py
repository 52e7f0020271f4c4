"""Dealings of a sheet, the first fault of what is none, and who is moved."""

from seatword.free import is_open
from seatword.kinds import is_tuple
from seatword.rooms import do_meet, stands_of
from seatword.sheets import is_seat, names_in, party_of, share_hours, span_of, stand_in


def has_form(room, sheet, thing):
    names = names_in(sheet[2])
    stands = stands_of(room)
    if not is_tuple(thing, len(names), len(names)):
        return False
    # The sheet's names rise, so who has them in their order rises too.
    return all(is_seat([name], stands, seat) for name, seat in zip(names, thing))


def do_clash(sheet, one, other):
    """Whether two seats of unlike parties share an hour and a table."""
    spans = [span_of(party_of(sheet, name)) for name, stand in (one, other)]
    return share_hours(spans[0], spans[1]) and do_meet(one[1], other[1])


def fault_of(room, sheet, thing):
    if not has_form(room, sheet, thing):
        return ("form",)
    for name, stand in thing:
        if not is_open(room, sheet, name, stand):
            return ("stand", name)
    for at, one in enumerate(thing):
        for other in thing[at + 1:]:
            if do_clash(sheet, one, other):
                return ("over", one[0], other[0])
    return None


def moved_names(old, dealing):
    return [name for name, stand in dealing if stand_in(old, name) not in (None, stand)]
