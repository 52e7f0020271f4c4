"""A desk anew, as point [36] and the interface say it, over a house that is told the same."""

import re

from housemodel import shown_house
from model import refusal_of
from seatword.desk import Desk
from seatword.errors import SeatError
from seatword.houses import House
from small import fewest_by_steps, stands_in
from texts import NUMBER, dealing_text, is_order_text, log_text, sheet_text

DAY = "(%s)" % NUMBER
QUESTIONS = {"undo": 1, "sheet": 1, "dealing": 1, "still": 2, "earliest": 4, "late": 1, "waiting": 1, "now": 1,
             "log": 0}


def could(room, sheet, guests, begin, stay):
    """Point [22] by a search of its own."""
    if len(sheet[2]) == 8:
        return False
    parties = tuple(sorted(sheet[2] + (("zzzzzzzz", guests, begin, stay),)))
    return fewest_by_steps(room, (sheet[0], sheet[1], parties, sheet[3]), ()) is not None


def still_due(room, sheet, stay):
    """Point [23] for each begin: the numbers of guests rise as long as they could be."""
    found = []
    for begin in range(sheet[0] - stay + 1):
        sizes = sorted({places for stand, places in stands_in(room)}, reverse=True)
        found.append(next((guests for guests in sizes if could(room, sheet, guests, begin, stay)), 0))
    return found


def earliest_due(room, sheet, guests, stay, begin):
    for hour in range(begin, sheet[0] - stay + 1) if begin < 12 else ():
        if could(room, sheet, guests, hour, stay):
            return hour
    return None


def thing_of(text):
    return int(text) if text.isdigit() else text


def deed_of(row):
    """The deed of a row, by patterns, or None."""
    match = re.fullmatch("close ([a-z]+)" + (" " + DAY) * 4, row)
    if match:
        return ("close", match[1], *(int(number) for number in match.groups()[1:]))
    match = re.fullmatch(DAY + " (.*)", row)
    if match and is_order_text(match[2]):
        word, *things = match[2].split(" ")
        return (int(match[1]), (word, *(thing_of(thing) for thing in things)))
    return None


def done(house, deed):
    return house.close(*deed[1:]) if deed[0] == "close" else house.order(*deed)


def log_due(room, hours, grace, rows):
    """The house of these rows, or the row of the first fault."""
    house = House(room, hours, grace)
    for at, row in enumerate(rows):
        deed = deed_of(row)
        if deed is None:
            return at
        many = len(house.log())
        try:
            done(house, deed)
        except SeatError:
            return at
        if len(house.log()) == many:
            return at
    return house


def no_text(paper):
    return "no at %d from %d" % paper[1:3] if paper[0] == "crowd" else "no"


def names_text(names):
    return "".join(" " + name for name in names)


def answer_text(deed, told):
    """What the interface says of a deed that is told so."""
    if deed[0] == "close":
        if told[0] == "no":
            return str(told[1]) + " " + no_text(told[2])
        return "yes" + "".join("; %d%s" % (day, names_text(moved)) for day, moved in told[1] if moved)
    word = deed[1][0]
    if word in ("book", "change", "shut", "longer", "walk"):
        if told[0] == "no":
            return no_text(told[1])
        return "yes" + names_text(told[1]) + (" at" + names_text(told[2]) if word == "walk" else "")
    if word == "call":
        return "none" if told is None else told[0] + " yes" + names_text(told[1]) + " at" + names_text(told[2])
    if word == "come":
        return " ".join(told)
    if word == "go_on":
        return "gone" + names_text(told[0]) + " lapsed" + names_text(told[1])
    return "ok"


class DeskBeside:
    """A desk, and a house that is told the same; fails the test where the desk answers otherwise."""

    def __init__(self, test, room, hours, grace):
        self.test = test
        self.room, self.hours, self.grace = room, hours, grace
        self.desk = Desk(room, hours, grace)
        self.house = House(room, hours, grace)
        self.counts = {}

    def due(self, row):
        """The answer, or the class of the refusal and its fields."""
        if type(row) is not str:
            return ("NoRow", [])
        if row.startswith("load "):
            made = log_due(self.room, self.hours, self.grace, row[5:].split(" / ") if row != "load " else [])
            if type(made) is int:
                return ("NoText", [("row", made)])
            self.house = made
            return "ok"
        try:
            deed = deed_of(row)
            if deed is not None:
                return answer_text(deed, done(self.house, deed))
            return self.asked(row)
        except SeatError as refused:
            return refusal_of(refused)

    def asked(self, row):
        word = row.split(" ")[0]
        if word not in QUESTIONS or not re.fullmatch(word + (" " + DAY) * QUESTIONS[word], row):
            return ("NoRow", [])
        numbers = [int(number) for number in row.split(" ")[1:]]
        house, day = self.house, numbers[0] if numbers else None
        if word == "log":
            return log_text(house.log()).replace("\n", " / ")
        if word == "undo":
            return house.undo(day) or "ok"
        if word in ("still", "earliest"):
            return self.told_ahead(house.sheet(day), *numbers[1:])
        told = getattr(house, word)(day)
        if word == "sheet":
            return sheet_text(told).replace("\n", " / ")
        if word == "dealing":
            return dealing_text(told)
        if word == "now":
            return str(told)
        return " ".join(told if word == "late" else [one[0] for one in told]) or "none"

    def told_ahead(self, sheet, *numbers):
        guests, stay, begin = numbers if len(numbers) == 3 else (1, numbers[0], None)
        if not 1 <= guests <= 60 or not 1 <= stay <= self.hours:
            return ("NoAsk", [])
        if begin is None:
            return " ".join(str(most) for most in still_due(self.room, sheet, stay))
        hour = earliest_due(self.room, sheet, guests, stay, begin)
        return "none" if hour is None else str(hour)

    def say(self, row):
        """What the desk answers, or its refusal; all of it is compared."""
        before = self.desk.say("log")
        try:
            told = self.desk.say(row)
            self.test.assertIs(type(told), str)
        except SeatError as refused:
            told = refusal_of(refused)
            self.test.assertEqual(self.desk.say("log"), before)
        self.test.assertEqual(told, self.due(row), row)
        self.test.assertEqual(self.desk.say("log"), log_text(self.house.log()).replace("\n", " / "))
        word = row.split(" ")[0] if type(row) is str else None
        self.counts[word, told if type(told) is str else told[0]] = True
        return told

    def compare(self):
        """That the desk's house is as the other one, by what the desk answers of each day."""
        days = shown_house(self.house)[0]
        for day, (now, sheet, dealing, late, line) in enumerate(days):
            due = [str(now), sheet_text(sheet).replace("\n", " / "), dealing_text(dealing), " ".join(late) or "none",
                   " ".join(one[0] for one in line) or "none"]
            words = ("now", "sheet", "dealing", "late", "waiting")
            self.test.assertEqual([self.desk.say("%s %d" % (word, day)) for word in words], due)
