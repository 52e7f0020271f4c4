"""A desk: it has a house, is told rows, and answers each with a text of one row."""

from seatword.answers import show_answer, show_names
from seatword.asks import earliest_of, still_open
from seatword.deeds import do_deed, read_deed
from seatword.errors import NoAsk, NoRow
from seatword.houses import House
from seatword.logs import house_of, show_log
from seatword.roomtexts import show_dealing, show_sheet
from seatword.sheets import is_ask, names_in
from seatword.words import read_number, show_things

# What parts the rows of a text that is told in one row.
STROKE = " / "


def in_one_row(text):
    return text.replace("\n", STROKE)


def read_question(row):
    """The row's word and its numbers; None for each that is no number."""
    word, *texts = row.split(" ")
    numbers = [read_number(text) for text in texts]
    return (word, *numbers)


def check_guests_and_stay(sheet, guests, stay):
    # A stay that makes a span at the begin of the evening is one from 1 to the hours.
    if not is_ask(sheet[0], guests, 0, stay):
        raise NoAsk("guests and stay are not such as can be asked for")


class Desk:
    """What it is told is done to its house."""

    def __init__(self, room, hours, grace):
        self.room = room
        self.hours = hours
        self.grace = grace
        self.house = House(room, hours, grace)

    def say(self, row):
        if not isinstance(row, str):
            raise NoRow("a row is a text")
        word, blank, rest = row.partition(" ")
        if word == "load" and blank:
            return self.load(rest)
        deed = read_deed(row)
        if deed is not None:
            return show_answer(deed, do_deed(self.house, deed))
        return self.answer(read_question(row))

    def load(self, text):
        self.house = house_of(self.room, self.hours, self.grace, text, STROKE)
        return "ok"

    def answer(self, question):
        if None in question:
            raise NoRow("a number is wanted in this row")
        house = self.house
        match question:
            case ("undo", day):
                house.undo(day)
                return "ok"
            case ("sheet", day):
                return in_one_row(show_sheet(house.sheet(day)))
            case ("dealing", day):
                return show_dealing(house.dealing(day))
            case ("still", day, stay):
                return self.still(day, stay)
            case ("earliest", day, guests, stay, begin):
                return self.earliest(day, guests, stay, begin)
            case ("late", day):
                return show_names(house.late(day))
            case ("waiting", day):
                return show_names(names_in(house.waiting(day)))
            case ("now", day):
                return str(house.now(day))
            case ("log",):
                return in_one_row(show_log(house))
        raise NoRow("the desk has no such row")

    def still(self, day, stay):
        sheet = self.house.sheet(day)
        check_guests_and_stay(sheet, 1, stay)
        return show_things(still_open(self.room, sheet, stay))

    def earliest(self, day, guests, stay, begin):
        sheet = self.house.sheet(day)
        check_guests_and_stay(sheet, guests, stay)
        hour = earliest_of(self.room, sheet, guests, stay, begin)
        return "none" if hour is None else str(hour)
