"""Point [35], and [4] of it: what stands of a house, written, and the house that is made of it."""

import random
import unittest

from chances import DEEDS, PAIR
from deskmodel import log_due
from great import ALIKE, great_room
from housemodel import DAYS, HouseBeside, shown_house, some_step, told_by
from model import WORDS
from seatword.errors import NoText
from seatword.houses import House
from seatword.logs import read_log, show_log
from small import some_room
from texts import log_text, otherwise

# Stands and their places: a 4, b 2, c 6, d 4, a b 5, b c 7, a b c 10.
ROOM = (((("a", 4), ("b", 2), ("c", 6)), (("d", 4),)), 1)
ONE = (((("a", 4),),), 0)
CHANGED = list(WORDS) + ["close", "undo", "0", "1", "2", "30", "31", "01", "a", "b", "anna", "bob", "zoe", "", "/"]


def some_calls(chance, many):
    """Calls of a house of any sort, for two houses that are told the same."""
    calls = []
    for step in range(many):
        day = chance.choice((0, 1, 2, 5, 6, 7, 9, 26, 27, 28, 30))
        last = min(day + chance.randint(0, 3), 30)
        order = chance.choice(DEEDS + [("book", name, 2, 1, 2) for name in ("finn", "ida", "kai")])
        calls.append(chance.choice([("order", day, order)] * 5 + [("close", "a", day, last, 1, 1), ("undo", day),
                                                                  ("undo", day)]))
    return calls


def empty(house):
    """Takes everything back, day by day; tells what was told, Bound and NoDeed among it."""
    told = []
    while house.log():
        for day in range(DAYS):
            told.append(told_by(house, "undo", day))
    return told + [told_by(house, "undo", day) for day in range(DAYS)]


class Checks(unittest.TestCase):
    def again(self, room, hours, grace, house):
        """The house that is made of what stands of this one; all that is shown is the same."""
        text = show_log(house)
        self.assertEqual(text, log_text(house.log()))
        other = read_log(room, hours, grace, text)
        self.assertIs(type(other), House)
        self.assertEqual(shown_house(other), shown_house(house))
        self.assertEqual(show_log(other), text)
        self.assertEqual([[type(part) for part in deed] for deed in other.log()],
                         [[type(part) for part in deed] for deed in house.log()])
        return other

    def refused(self, row, text, room=PAIR, hours=4, grace=1):
        with self.assertRaises(NoText) as caught:
            read_log(room, hours, grace, text)
        self.assertIs(type(caught.exception), NoText)
        self.assertEqual(caught.exception.row, row, text)


class Written(Checks):
    def test_sign_by_sign(self):
        house = House(ROOM, 5, 1)
        self.assertEqual(show_log(house), "")
        house.order(30, ("book", "anna", 4, 0, 2))
        self.assertEqual(show_log(house), "30 book anna 4 0 2")
        house.close("d", 0, 30, 3, 2)
        house.order(0, ("go_on",))
        house.order(7, ("wait", "bob", 2, 1))
        house.order(7, ("call",))
        self.assertEqual(show_log(house), "30 book anna 4 0 2\nclose d 0 30 3 2\n0 go_on\n7 wait bob 2 1\n7 call")
        house.undo(7)
        self.assertEqual(show_log(house), "30 book anna 4 0 2\nclose d 0 30 3 2\n0 go_on\n7 wait bob 2 1")
        house.order(7, ("give_up", "bob"))
        house.order(7, ("call",))
        self.assertEqual(show_log(house).split("\n")[-1], "7 give_up bob")

    def test_each_word(self):
        house = House(PAIR, 4, 1)
        for deed in DEEDS:
            house.order(12, deed)
            self.again(PAIR, 4, 1, house)
        self.assertEqual({row.split(" ")[1] for row in show_log(house).split("\n")}, set(WORDS))

    def test_the_text_without_signs(self):
        house = read_log(ROOM, 5, 1, "")
        self.assertEqual(shown_house(house), shown_house(House(ROOM, 5, 1)))
        self.assertEqual(show_log(house), "")
        self.assertEqual(house.order(0, ("book", "anna", 10, 0, 5)), ("yes", []))

    def test_holds_and_grace_are_kept(self):
        for grace, holds in ((0, 2), (2, 0), (1, 1), (1, 2)):
            house = House(ROOM, 12, grace)
            house.order(3, ("book", "anna", 2, 0, 12))
            for step in range(holds):
                house.order(3, ("hold", "anna", 1))
            other = self.again(ROOM, 12, grace, house)
            for step in range(5):
                self.assertEqual(other.order(3, ("go_on",)), house.order(3, ("go_on",)))

    def test_a_hundred_deeds_and_more(self):
        house = House(ALIKE, 12, 12)
        for day in (3, 4):
            house.order(day, ("book", "anna", 1, 0, 12))
        for step in range(40):
            house.order(3 + step % 2, ("book", "bob", 1, step % 12, 1))
            house.order(3 + (step + 1) % 2, ("hold", "anna", 1))
            house.order(3 + step % 2, ("cancel", "bob"))
            if step % 10 == 5:
                house.close("h", 2, 5, 0, 1)
                house.close("g", 4, 6, 0, 1)
            if step % 10 == 4:
                house.undo(4)
        self.assertGreater(len(house.log()), 110)
        self.assertGreater(len(show_log(house)), 1500)
        other = self.again(ALIKE, 12, 12, house)
        self.assertEqual(empty(other), empty(house))

    def test_a_text_of_more_than_four_thousand_signs(self):
        house = House(ROOM, 12, 12)
        house.order(0, ("book", "abcdefgh", 1, 0, 12))
        for step in range(300):
            house.order(0, ("hold", "abcdefgh", 12))
        self.assertGreater(len(show_log(house)), 4000)
        self.again(ROOM, 12, 12, house)


class MadeAnew(Checks):
    def test_seeded_houses(self):
        chance = random.Random(35)
        counts = {}
        for step in range(30):
            room = some_room(chance) if step % 4 else great_room(chance)
            hours, grace = chance.choice((1, 3, 6, 12)), chance.choice((0, 1, 2, 12))
            beside = HouseBeside(self, room, hours, grace)
            days = [1, 2, 6]
            for part in range(4):
                for deed in range(25):
                    some_step(chance, beside, days)
                other = self.again(room, hours, grace, beside.house)
            both = (beside.house, other)
            for call in some_calls(chance, 40):
                one, two = (told_by(house, *call) for house in both)
                self.assertEqual(one, two)
                self.assertEqual(shown_house(both[0]), shown_house(both[1]))
                self.assertEqual(show_log(both[0]), show_log(both[1]))
                counts[call[0], str(one and one[0])] = True
            told = empty(both[0])
            self.assertEqual(empty(both[1]), told)
            counts.update(((row[0], "behind"), True) for row in told if row is not None)
        for key in (("order", "yes"), ("order", "no"), ("close", "yes"), ("close", "no"), ("undo", "None"),
                    ("undo", "Bound"), ("undo", "NoDeed"), ("NoDeed", "behind")):
            self.assertIn(key, counts)

    def test_bound_behind_it(self):
        house = House(ROOM, 5, 1)
        house.order(4, ("book", "anna", 2, 0, 2))
        house.close("a", 2, 5, 0, 1)
        house.order(3, ("go_on",))
        other = self.again(ROOM, 5, 1, house)
        for day in (2, 4, 5):
            self.assertEqual(told_by(other, "undo", day), ("Bound", [("day", 3)]))
        self.assertEqual(empty(other), empty(house))

    def test_what_is_done_to_either_changes_nothing_at_the_other(self):
        house = House(ROOM, 5, 1)
        house.order(4, ("book", "anna", 2, 0, 2))
        house.close("a", 2, 5, 0, 1)
        other = self.again(ROOM, 5, 1, house)
        third = self.again(ROOM, 5, 1, house)
        before = shown_house(house)
        other.undo(4)
        other.undo(4)
        other.order(9, ("book", "bob", 3, 0, 1))
        self.assertEqual((shown_house(house), shown_house(third)), (before, before))
        text = show_log(house)
        house.order(0, ("go_on",))
        self.assertEqual(shown_house(third), before)
        self.assertEqual(shown_house(read_log(ROOM, 5, 1, text)), before)

    def test_moved_ones_are_moved_again(self):
        # Anna is first given the great table, and moved where bob comes.
        house = House(PAIR, 2, 0)
        for order in (("shut", "a", 0, 1), ("book", "anna", 2, 0, 1), ("unshut", "a", 0, 1)):
            house.order(6, order)
        self.assertEqual(house.order(6, ("book", "bob", 3, 0, 2)), ("yes", ["anna"]))
        other = self.again(PAIR, 2, 0, house)
        self.assertEqual(other.dealing(6), (("anna", ("a",)), ("bob", ("b",))))
        other.undo(6)
        self.assertEqual(other.dealing(6), (("anna", ("b",)),))


class Refused(Checks):
    def test_rows_that_are_none(self):
        for row in ("", " ", "book anna 2 0 1", "0", "0 ", "0  go_on", " 0 go_on", "0 go_on ", "00 go_on", "01 go_on",
                    "-1 go_on", "x go_on", "go_on", "0 undo", "undo 0", "0 undo 0", "0 Go_on", "0 go_on 0",
                    "0 book anna 2 0", "0 book anna 2 0 1 1", "0 book Anna 2 0 1", "0 book anna 02 0 1", "log",
                    "close", "close a 0 0 0", "close a 0 0 0 1 1", "close a 0 0 0 01", "close a 00 0 0 1",
                    "close a b 0 0 1", "close A 0 0 0 1", "close 5 0 0 0 1", "Close a 0 0 0 1", "close  a 0 0 0 1",
                    "0 close a 0 0 0 1", "close a 0 0 0 1 ", " close a 0 0 0 1", "close a -1 0 0 1", "load ",
                    "0 close a 0 1", "sheet 0", "0 go_on / 0 go_on", "9" * 61 + " go_on", "a" * 4000,
                    "close a 0 0 0 " + "9" * 61, "close a 0 0 0 " + "9" * 3000, "0\tgo_on"):
            if row:
                self.refused(0, row)
            self.refused(1, "3 go_on\n" + row)
            self.refused(2, "3 go_on\n3 go_on\n" + row + "\n3 go_on")
            self.refused(0, row + "\n3 go_on")

    def test_deeds_that_are_refused(self):
        head = "1 book anna 2 0 2\n1 walk bob 2 1\n1 wait carl 1 1\nclose a 5 6 2 1\n"
        self.assertEqual(len(read_log(PAIR, 4, 1, head[:-1]).log()), 4)
        for row in ("1 book anna 2 0 1", "1 book annaannaa 2 0 1", "1 book 5 2 0 1", "1 cancel zoe", "1 cancel 5",
                    "1 cancel bob", "1 leave anna", "1 hold anna 0", "1 hold anna 13", "1 longer anna 0", "1 come bob",
                    "1 book zoe 0 0 1", "1 book zoe 61 0 1", "1 book zoe 2 4 1", "1 book zoe two 0 1",
                    "1 unshut a 2 1", "2 cancel anna", "1 give_up anna", "1 wait zoe 1 5", "1 shut z 0 1",
                    "1 longer anna " + "9" * 60):
            self.refused(4, head + row)
            self.refused(4, head + row + "\n" + row)
            self.refused(5, head + "6 go_on\n" + row + "\n1 go_on")
        self.refused(0, "0 go_on", ONE, 1)
        self.refused(1, "0 go_on\n0 go_on", ONE, 2)

    def test_days_out_of_bounds(self):
        for day in ("31", "32", "100", "9" * 60):
            self.refused(0, day + " go_on")
            self.refused(1, "30 go_on\n" + day + " call")
            self.refused(0, "close a 0 " + day + " 0 1")
            self.refused(0, "close a " + day + " " + day + " 0 1")
        self.refused(0, "close a 1 0 0 1")
        self.assertEqual(read_log(PAIR, 4, 1, "30 go_on\n0 go_on").now(30), 1)

    def test_answered_no(self):
        self.refused(1, "0 book anna 3 0 2\n0 book bob 3 1 1\n0 go_on")
        self.refused(0, "0 walk anna 5 1")
        self.refused(1, "0 book anna 3 0 2\n0 change anna 5 0 2")
        self.refused(2, "0 walk anna 3 1\n0 book bob 3 1 1\n0 longer anna 1")
        self.refused(1, "0 walk anna 3 1\n0 shut b 0 1")

    def test_a_call_of_nobody(self):
        self.refused(0, "0 call")
        self.refused(2, "0 wait anna 5 1\n1 go_on\n0 call")
        self.refused(2, "0 wait anna 1 1\n0 call\n0 call")
        self.assertEqual(read_log(PAIR, 4, 1, "0 wait anna 1 1\n0 call").dealing(0), (("anna", ("a",)),))

    def test_closings(self):
        self.refused(0, "close z 0 0 0 1")
        self.refused(0, "close a 0 0 0 5")
        self.refused(1, "3 go_on\nclose a 2 4 0 1")
        self.refused(1, "3 walk anna 3 2\nclose b 0 30 1 1")
        self.refused(12, "close a 0 3 0 1\n" + "2 shut a 0 1\n" * 11 + "close a 1 2 0 1")
        self.refused(1, "3 go_on\nclose abcdefghijkl 2 4 1 1")
        house = read_log(PAIR, 4, 1, "3 go_on\nclose a 2 4 1 1")
        self.assertEqual(house.log(), [(3, ("go_on",)), ("close", "a", 2, 4, 1, 1)])

    def test_line_feeds(self):
        self.refused(1, "0 go_on\n")
        self.refused(0, "\n")
        self.refused(0, "\n0 go_on")
        self.refused(1, "0 go_on\n\n0 go_on")

    def test_of_other_hours_another_grace_and_another_room(self):
        text = "0 book anna 3 0 4\n0 go_on\n0 go_on\n0 come anna"
        self.assertEqual(show_log(read_log(PAIR, 4, 2, text)), text)
        self.refused(0, text, PAIR, 3, 2)
        self.refused(3, text, PAIR, 4, 1)
        self.refused(0, text, (((("a", 2), ("b", 2)),), 4), 4, 2)
        self.assertEqual(read_log(ONE, 12, 12, text).dealing(0), (("anna", ("a",)),))
        self.refused(1, "0 go_on\n1 shut b 0 1", ONE)
        self.refused(2, "0 go_on\n0 go_on\n0 go_on", ONE, 3)

    def test_texts_otherwise(self):
        chance = random.Random(351)
        read = refused = 0
        for step in range(60):
            room, hours, grace = some_room(chance), chance.choice((2, 4, 12)), chance.choice((0, 2))
            beside = HouseBeside(self, room, hours, grace)
            for deed in range(25):
                some_step(chance, beside, [0, 1, 30])
            for change in range(25):
                text = otherwise(chance, show_log(beside.house), CHANGED)
                due = log_due(room, hours, grace, text.split("\n") if text else [])
                if type(due) is int:
                    self.refused(due, text, room, hours, grace)
                    refused += 1
                else:
                    made = read_log(room, hours, grace, text)
                    self.assertEqual((shown_house(made), show_log(made)), (shown_house(due), text))
                    read += 1
        self.assertGreater(min(read, refused), 150)

    def test_nothing_is_left_behind(self):
        house = House(PAIR, 4, 1)
        house.order(0, ("go_on",))
        before = shown_house(house)
        self.refused(1, show_log(house) + "\n0 call")
        self.assertEqual(shown_house(house), before)


if __name__ == "__main__":
    unittest.main()
