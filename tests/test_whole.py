"""Points [1] to [5] over the whole: evenings, houses, logs and desks that are told the same, with models beside."""

import random
import unittest

from chances import some_deed
from deskmodel import answer_text, could, earliest_due, still_due
from great import NAMES, great_room
from housemodel import HouseBeside, shown_house, some_step
from model import WORDS, Beside, refusal_of, tell, whole
from seatword import errors
from seatword.asks import could_be, earliest_of, still_open
from seatword.desk import Desk
from seatword.errors import SeatError
from seatword.logs import read_log, show_log
from small import clash, open_to, some_room
from texts import log_text, order_text, sheet_text

# What may stand in a row for the desk, most of it in a wrong place.
WRITABLE = [0, 1, 2, 4, 11, 12, 13, 30, 31, 60, 61, 10 ** 59, "a", "b", "zoe", "bob", "yes", "no", "abcdefghi", "close"]


def is_refusal(told):
    """Names of classes have a capital, and nothing else that is told has."""
    return type(told) is tuple and type(told[0]) is str and told[0][:1].isupper()


def is_writable(thing):
    return whole(thing, 0) or type(thing) is str and thing.isalpha() and thing.islower()


def check_seated(test, room, sheet, dealing):
    """The first clause of point [4], without the program."""
    hours, shuts, parties, seats = sheet
    stands = dict(dealing)
    test.assertEqual(list(stands), [party[0] for party in parties])
    bare = (hours, shuts, parties, ())
    for at, party in enumerate(parties):
        test.assertTrue(open_to(room, bare, party[0], stands[party[0]]))
        for other in parties[:at]:
            test.assertFalse(clash(party, stands[party[0]], other, stands[other[0]]))
    for name, stand in seats:
        test.assertEqual(stands[name], stand)


class Whole(HouseBeside):
    """A house with its models, and a desk that is told the same rows."""

    def __init__(self, test, room, hours, grace):
        HouseBeside.__init__(self, test, room, hours, grace)
        self.room, self.hours, self.grace = room, hours, grace
        self.desk = Desk(room, hours, grace)
        # For each day the stands that were told to those that came, ahead of all deeds and behind each that stands.
        self.sat = [[{}] for day in range(31)]

    def count_sat(self):
        """As many of these as deeds stand, whatever was done or taken back."""
        for sat, beside in zip(self.sat, self.days):
            del sat[len(beside.ahead) + 1:]
            while len(sat) <= len(beside.ahead):
                sat.append(dict(sat[-1]))

    def tell_desk(self, row, due):
        try:
            told = self.desk.say(row)
        except SeatError as refused:
            told = refusal_of(refused)
        self.test.assertEqual(told, due, row)
        self.test.assertEqual(self.desk.say("log"), log_text(self.house.log()).replace("\n", " / "))

    def order(self, day, *order):
        told = HouseBeside.order(self, day, *order)
        if all(is_writable(thing) for thing in order[1:]):
            self.tell_desk("%d %s" % (day, order_text(order)),
                           told if is_refusal(told) else answer_text((day, order), told))
        self.count_sat()
        if told is not None and not is_refusal(told):
            self.seat(self.sat[day][-1], order, told)
        self.check(day)
        return told

    def seat(self, sat, order, told):
        word = order[0]
        if word == "come":
            sat[order[1]] = told
        elif word == "walk" and told[0] == "yes":
            sat[order[1]] = told[2]
        elif word == "call":
            sat[told[0]] = told[2]

    def close(self, table, first, last, begin, stay):
        told = HouseBeside.close(self, table, first, last, begin, stay)
        things = (table, first, last, begin, stay)
        if is_writable(table) and type(table) is str and all(whole(number, 0) for number in things[1:]):
            deed = ("close",) + things
            self.tell_desk(" ".join(str(part) for part in deed), told if is_refusal(told) else answer_text(deed, told))
        self.count_sat()
        if whole(first, 0, 30):
            self.check(first)
        return told

    def undo(self, day):
        told = HouseBeside.undo(self, day)
        self.tell_desk("undo %d" % day, told or "ok")
        self.count_sat()
        self.check(day)
        return told

    def check(self, day):
        sheet, dealing = self.house.sheet(day), self.house.dealing(day)
        check_seated(self.test, self.room, sheet, dealing)
        for name, stand in sheet[3]:
            self.test.assertEqual(self.sat[day][-1][name], stand)
        self.test.assertEqual(self.desk.say("sheet %d" % day), sheet_text(sheet).replace("\n", " / "))

    def ask_ahead(self, chance, day):
        """Some asks as they are told ahead, and answered."""
        sheet, now = self.house.sheet(day), self.house.now(day)
        stay = chance.randint(1, self.hours - now)
        most = still_due(self.room, sheet, stay)
        self.test.assertEqual(still_open(self.room, sheet, stay), most)
        self.test.assertEqual(self.desk.say("still %d %d" % (day, stay)), " ".join(str(many) for many in most))
        guests, begin = chance.choice((1, 2, 3, 5, 8, most[-1] or 1)), chance.randint(now, self.hours - stay)
        earliest = earliest_due(self.room, sheet, guests, stay, now)
        self.test.assertEqual(earliest_of(self.room, sheet, guests, stay, now), earliest)
        self.test.assertEqual(self.desk.say("earliest %d %d %d %d" % (day, guests, stay, now)),
                              "none" if earliest is None else str(earliest))
        names = [party[0] for party in sheet[2]] + [row[0] for row in self.house.waiting(day)]
        name = [name for name in NAMES + ["ida", "kai", "zoe", "yves"] * 2 + list("abcdefgh") if name not in names][0]
        self.answered(day, sheet, ("book", name, guests, begin, stay), guests <= most[begin], earliest)
        if begin == now:
            self.answered(day, sheet, ("walk", name, guests, stay), guests <= most[begin], earliest)

    def answered(self, day, sheet, order, due, earliest):
        """An ask is said yes to just where it was told ahead."""
        guests, stay = order[2], order[-1]
        begin = order[3] if order[0] == "book" else self.house.now(day)
        self.test.assertEqual(could_be(self.room, sheet, guests, begin, stay), due)
        if len(sheet[2]) == 8:
            self.test.assertEqual((self.order(day, *order), due), (("Full", []), False))
            return
        self.test.assertEqual(could(self.room, sheet, guests, begin, stay), due)
        told = self.order(day, *order)
        self.test.assertEqual(told[0] == "yes", due)
        if due:
            self.test.assertLessEqual(earliest, begin)
            self.undo(day)
        self.count("ahead", told[0])

    def made_anew(self):
        text = show_log(self.house)
        made = read_log(self.room, self.hours, self.grace, text)
        self.test.assertEqual(shown_house(made), shown_house(self.house))
        self.test.assertEqual(self.desk.say("load " + text.replace("\n", " / ")), "ok")


class Houses(unittest.TestCase):
    def live(self, chance, room, hours, steps, counts):
        beside = Whole(self, room, hours, chance.choice((0, 1, 3, 12)))
        days = [0, 1, 30] if chance.random() < 0.5 else [7, 8, 10]
        for step in range(steps):
            some_step(chance, beside, days, others=WRITABLE)
            if step % 6 == 5:
                beside.ask_ahead(chance, chance.choice(days))
            if step % 30 == 20:
                beside.made_anew()
        beside.undo_all()
        self.assertEqual(beside.desk.say("log"), "")
        for key, many in beside.counts.items():
            counts[key] = counts.get(key, 0) + many

    def test_small_and_great_rooms(self):
        chance = random.Random(45)
        counts = {}
        for step in range(30):
            self.live(chance, some_room(chance), chance.choice((1, 3, 5, 12)), 80, counts)
        for step in range(6):
            self.live(chance, great_room(chance), chance.choice((2, 4, 6)), 120, counts)
        due = {("ahead", "yes"), ("ahead", "no"), ("close", "yes"), ("close", "yes, moved"), ("close", "no"),
               ("undo", "deed"), ("undo", "days"), ("undo", "Bound"), ("undo", "NoDeed")}
        due |= {(word, "deed") for word in WORDS}
        self.assertEqual(due - set(counts), set())


class Evenings(unittest.TestCase):
    def test_whatever_was_said_yes_to_is_seated(self):
        chance = random.Random(46)
        for step in range(40):
            room = some_room(chance) if step % 4 else great_room(chance)
            beside = Beside(self, room, chance.choice((1, 4, 12)), chance.choice((0, 1, 12)))
            for deed in range(60):
                if chance.random() < 0.1:
                    beside.undo()
                else:
                    beside.tell(*some_deed(chance, beside.model))
                check_seated(self, room, beside.evening.sheet(), beside.evening.dealing())
            while beside.ahead:
                beside.undo()
            self.assertEqual(tell(beside.evening, ("undo",)), ("NoDeed", []))


class Refusals(unittest.TestCase):
    FIELDS = {"Taken": ["name"], "Unknown": ["name"], "Sits": ["name"], "NotSitting": ["name"], "Early": ["hour"],
              "Bound": ["day"], "NoText": ["row"]}

    def test_each_is_of_its_class_with_its_field(self):
        desk = Desk((((("a", 4),),), 0), 3, 0)
        for row in ("0 book anna 2 1 1", "0 walk bob 2 1", "0 wait carl 2 1", "close a 3 4 0 1", "4 go_on",
                    "5 wait anna 1 1", "5 wait bob 1 1", "5 wait carl 1 1", "5 wait dora 1 1", "5 wait emil 1 1",
                    "5 wait finn 1 1", "5 wait gerd 1 1", "5 wait hans 1 1", "4 go_on"):
            desk.say(row)
        rows = {"NoName": "0 book 5 2 0 1", "Taken": "0 book bob 2 0 1", "Unknown": "0 cancel zoe",
                "NoAsk": "0 hold anna 0", "Full": "5 wait zoe 1 1", "Sits": "0 cancel bob", "NotSitting": "0 leave anna",
                "NoShut": "0 unshut a 0 1", "Early": "0 come anna", "Over": "4 go_on", "NoDeed": "undo 9",
                "NoDay": "31 call", "Bound": "undo 3", "NoText": "load x", "NoRow": "x"}
        values = {"Taken": "bob", "Unknown": "zoe", "Sits": "bob", "NotSitting": "anna", "Early": 1, "Bound": 4,
                  "NoText": 0}
        for name, row in rows.items():
            before = desk.say("log")
            with self.assertRaises(SeatError) as caught:
                desk.say(row)
            error = caught.exception
            self.assertIs(type(error), getattr(errors, name), row)
            self.assertEqual(type(error).__mro__[1:3], (SeatError, ValueError))
            self.assertEqual(vars(error), {field: values[name] for field in self.FIELDS.get(name, [])})
            self.assertEqual(desk.say("log"), before)


if __name__ == "__main__":
    unittest.main()
