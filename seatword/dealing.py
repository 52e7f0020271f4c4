"""Of a sheet a dealing, or a paper that bars it."""

from seatword.search import Search
from seatword.sheets import by_names
from seatword.views import Hall, view_of


def with_seats_of(sheet, told):
    """What a search told, with the seats that the sheet has already; a dealing rises by its names."""
    if told[0] == "barred":
        return told
    return ("dealt", by_names(sheet[3] + told[1]))


def dealing_of(room, sheet):
    hall = Hall(room)
    view = view_of(hall, sheet)
    if view[2]:
        return ("barred", ("seat", view[2][0]))
    return with_seats_of(sheet, Search(hall, {}).seek(view, None))
