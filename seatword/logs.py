"""What stands of a house, written as a text, and a house made of it."""

from seatword.deeds import do_deed, read_deed, show_deed
from seatword.errors import NoText, SeatError
from seatword.houses import House


def show_log(house):
    return "\n".join([show_deed(deed) for deed in house.log()])


def do_row(house, at, row):
    """Does what the row at this place tells, which has to be a deed."""
    deed = read_deed(row)
    if deed is None:
        raise NoText(at)
    deeds = house.deeds()
    try:
        do_deed(house, deed)
    except SeatError:
        raise NoText(at) from None
    if house.deeds() == deeds:
        raise NoText(at)


def house_of(room, hours, grace, text, between):
    """The house of a log's text whose rows are parted so."""
    house = House(room, hours, grace)
    # A text without signs has no rows here.
    rows = text.split(between) if text else []
    for at, row in enumerate(rows):
        do_row(house, at, row)
    return house


def read_log(room, hours, grace, text):
    return house_of(room, hours, grace, text, "\n")
