"""Rooms, sheets and dealings, written as texts and read."""

from seatword.errors import NoText
from seatword.rooms import is_lost, is_room
from seatword.sheets import is_sheet
from seatword.words import read_number, read_things, show_things


def show_rows(rows):
    return "\n".join([show_things(row) for row in rows])


def show_room(room):
    rows, lost = room
    tables = [[part for table in row for part in table] for row in rows]
    return show_rows([("lost", lost)] + [("row", *row) for row in tables])


def show_sheet(sheet):
    hours, shuts, parties, seats = sheet
    rows = [("hours", hours)]
    rows += [("shut", *shut) for shut in shuts]
    rows += [("party", *party) for party in parties]
    rows += [("seat", name, *stand) for name, stand in seats]
    return show_rows(rows)


def show_dealing(dealing):
    if not dealing:
        return "-"
    return "; ".join([show_things((name, *stand)) for name, stand in dealing])


def read_head(word, row):
    """The number behind the word in a row of these two, or None."""
    texts = row.split(" ")
    if len(texts) != 2 or texts[0] != word:
        return None
    return read_number(texts[1])


def read_row(row):
    """What may be a row of tables, or None where it has not the word."""
    word, *texts = row.split(" ")
    if word != "row":
        return None
    things = read_things(texts)
    # Where a place is missing the last of these is no table.
    return tuple(things[at:at + 2] for at in range(0, len(things), 2))


def read_room(text):
    head, *rest = text.split("\n")
    lost = read_head("lost", head)
    if not is_lost(lost):
        raise NoText(0)
    rows = ()
    for at, row in enumerate(rest, start=1):
        rows = (*rows, read_row(row))
        if not is_room((rows, lost)):
            raise NoText(at)
    if not rows:
        raise NoText(1)
    return (rows, lost)


def with_row(sheet, row):
    """What may be the sheet with what the row tells as its last; None where its word does not stand there."""
    word, *texts = row.split(" ")
    things = read_things(texts)
    hours, shuts, parties, seats = sheet
    # Where there are seats there are parties, too.
    if word == "shut" and not parties:
        return (hours, (*shuts, things), parties, seats)
    if word == "party" and not seats:
        return (hours, shuts, (*parties, things), seats)
    if word == "seat":
        return (hours, shuts, parties, (*seats, things[:1] + (things[1:],)))
    return None


def read_sheet(room, text):
    head, *rest = text.split("\n")
    sheet = (read_head("hours", head), (), (), ())
    if not is_sheet(room, sheet):
        raise NoText(0)
    for at, row in enumerate(rest, start=1):
        sheet = with_row(sheet, row)
        if not is_sheet(room, sheet):
            raise NoText(at)
    return sheet
