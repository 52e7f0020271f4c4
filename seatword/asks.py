"""Which asks could be said yes to, told ahead."""

from seatword.dealing import dealing_of
from seatword.rooms import LETTERS, stands_with_places
from seatword.sheets import MOST_PARTIES, is_ask, is_span, names_in, with_party


def new_name(sheet):
    """A name that no party has; there are more letters than parties."""
    names = names_in(sheet[2])
    return [letter for letter in LETTERS if letter not in names][0]


def could_be(room, sheet, guests, begin, stay):
    if len(sheet[2]) >= MOST_PARTIES or not is_ask(sheet[0], guests, begin, stay):
        return False
    party = (new_name(sheet), guests, begin, stay)
    return dealing_of(room, with_party(sheet, party))[0] == "dealt"


def greatest_of(room, sheet, begin, stay):
    # Between two numbers of places the stands are those of the greater one.
    sizes = sorted({places for stand, places in stands_with_places(room)})
    for guests in sizes[::-1]:
        if could_be(room, sheet, guests, begin, stay):
            return guests
    return 0


def still_open(room, sheet, stay):
    hours = sheet[0]
    return [greatest_of(room, sheet, begin, stay) for begin in range(hours) if is_span(hours, begin, stay)]


def earliest_of(room, sheet, guests, stay, begin):
    for hour in range(max(begin, 0), sheet[0]):
        if could_be(room, sheet, guests, hour, stay):
            return hour
    return None
