"""Papers that show why a sheet has no dealing, or none that moves so few."""

from seatword.free import free_stands, is_open, open_stands, taken_tables
from seatword.kinds import is_rising, is_tuple, is_within
from seatword.rooms import do_meet, tables_of
from seatword.sheets import names_in, seat_of, share_hours, span_of, stand_in, with_seat


def unseated(sheet):
    """The parties that have no seat."""
    return [party for party in sheet[2] if seat_of(sheet, party[0]) is None]


def are_rising_of(names, thing):
    """Whether thing is a rising tuple of unlike ones of these names."""
    return is_tuple(thing, 0, len(names)) and all(name in names for name in thing) and is_rising(thing)


def is_paper(thing, word, many):
    return is_tuple(thing, many, many) and thing[0] == word


def does_crowd_bar(room, sheet, hour, guests, tables):
    if not is_within(hour, 0, sheet[0] - 1) or not is_within(guests, 1, 60):
        return False
    if not are_rising_of(tables_of(room), tables):
        return False
    span = (hour, 1)
    crowd = [party for party in unseated(sheet) if party[1] >= guests and share_hours(span_of(party), span)]
    free = free_stands(room, guests, taken_tables(sheet, span, None))
    return len(crowd) > len(tables) and all(do_meet(stand, tables) for stand in free)


def does_seat_bar(room, sheet, name):
    if name not in names_in(sheet[3]):
        return False
    return not is_open(room, sheet, name, seat_of(sheet, name))


def cases_due(room, sheet, old, spare, name):
    """For each stand that wants a row, in their order, (stand, the spare that is left)."""
    before = stand_in(old, name)
    due = []
    for stand in open_stands(room, sheet, name):
        if spare is None or before in (None, stand):
            due.append((stand, spare))
        elif spare > 0:
            due.append((stand, spare - 1))
    return due


def do_cases_bar(room, sheet, old, spare, name, rows):
    if name not in names_in(unseated(sheet)):
        return False
    due = cases_due(room, sheet, old, spare, name)
    if not is_tuple(rows, len(due), len(due)):
        return False
    for row, (stand, left) in zip(rows, due):
        if not is_tuple(row, 2, 2) or row[0] != stand:
            return False
        if not bars(room, with_seat(sheet, name, stand), old, left, row[1]):
            return False
    return True


def must_move(room, sheet, old, name):
    before = stand_in(old, name)
    return before is not None and not is_open(room, sheet, name, before)


def do_moves_bar(room, sheet, old, spare, names):
    if spare is None or not are_rising_of(names_in(unseated(sheet)), names):
        return False
    return len(names) > spare and all(must_move(room, sheet, old, name) for name in names)


def bars(room, sheet, old, spare, paper):
    if is_paper(paper, "crowd", 4):
        return does_crowd_bar(room, sheet, paper[1], paper[2], paper[3])
    if is_paper(paper, "seat", 2):
        return does_seat_bar(room, sheet, paper[1])
    if is_paper(paper, "cases", 3):
        return do_cases_bar(room, sheet, old, spare, paper[1], paper[2])
    if is_paper(paper, "moves", 2):
        return do_moves_bar(room, sheet, old, spare, paper[1])
    return False
