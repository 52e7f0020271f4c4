"""Of a sheet and old seats the fewest that are moved."""

from seatword.dealing import dealing_of, with_seats_of
from seatword.search import Search
from seatword.views import Hall, view_of


def fewest_moved(room, sheet, old):
    told = dealing_of(room, sheet)
    if told[0] == "barred":
        return told
    hall = Hall(room)
    view = view_of(hall, sheet)
    search = Search(hall, dict(old))
    many = 0
    paper = None
    told = search.seek(view, many)
    while told[0] == "barred":
        many += 1
        paper = told[1]
        told = search.seek(view, many)
    return ("dealt", many, with_seats_of(sheet, told)[1], paper)
