"""Papers that show why a sheet has no dealing, or none that moves so few."""

from seatword.kinds import is_rising, is_tuple, is_within
from seatword.sheets import names_in, share_hours, span_of
from seatword.views import Hall, bits_of, seat_in, stands_for, stands_to, view_of


def are_rising_of(names, thing):
    """Whether thing is a rising tuple of unlike ones of these names."""
    return is_tuple(thing, 0, len(names)) and all(name in names for name in thing) and is_rising(thing)


def is_paper(thing, word, many):
    return is_tuple(thing, many, many) and thing[0] == word


def waiting_party(view, name):
    """The party of this name that waits, or None."""
    for party in view[1]:
        if party[0] == name:
            return party
    return None


def does_crowd_bar(hall, view, hour, guests, tables):
    taken, waiting, wrong = view
    if not is_within(hour, 0, len(taken) - 1) or not is_within(guests, 1, 60):
        return False
    if not are_rising_of(list(hall.bits), tables):
        return False
    crowd = [party for party in waiting if party[1] >= guests and share_hours(span_of(party), (hour, 1))]
    if len(crowd) <= len(tables):
        return False
    told = bits_of(hall.bits, tables)
    return all(bits & told for stand, bits in stands_for(hall, guests, taken[hour]))


def cases_due(hall, view, before, spare, party):
    """For each stand that wants a row, in their order, (stand, bits, the spare that is left)."""
    kept = before.get(party[0])
    due = []
    for stand, bits in stands_to(hall, view, party):
        if spare is None or kept in (None, stand):
            due.append((stand, bits, spare))
        elif spare > 0:
            due.append((stand, bits, spare - 1))
    return due


def do_cases_bar(hall, view, before, spare, name, rows):
    party = waiting_party(view, name)
    if party is None:
        return False
    due = cases_due(hall, view, before, spare, party)
    if not is_tuple(rows, len(due), len(due)):
        return False
    for row, (stand, bits, left) in zip(rows, due):
        if not is_tuple(row, 2, 2) or row[0] != stand:
            return False
        if not does_bar(hall, seat_in(view, party, bits), before, left, row[1]):
            return False
    return True


def must_move(hall, view, before, party):
    kept = before.get(party[0])
    return kept is not None and kept not in [stand for stand, bits in stands_to(hall, view, party)]


def do_moves_bar(hall, view, before, spare, names):
    if spare is None or not are_rising_of(names_in(view[1]), names) or len(names) <= spare:
        return False
    return all(must_move(hall, view, before, waiting_party(view, name)) for name in names)


def does_bar(hall, view, before, spare, paper):
    """As bars, of a view and of the old stands by their names."""
    if is_paper(paper, "crowd", 4):
        return does_crowd_bar(hall, view, paper[1], paper[2], paper[3])
    if is_paper(paper, "seat", 2):
        return paper[1] in view[2]
    if is_paper(paper, "cases", 3):
        return do_cases_bar(hall, view, before, spare, paper[1], paper[2])
    if is_paper(paper, "moves", 2):
        return do_moves_bar(hall, view, before, spare, paper[1])
    return False


def bars(room, sheet, old, spare, paper):
    hall = Hall(room)
    return does_bar(hall, view_of(hall, sheet), dict(old), spare, paper)
