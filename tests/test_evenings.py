"""Points [24] to [26], and [3] and [4] of evenings: book, change, cancel, shut, unshut."""

import unittest

from great import ALIKE, NAMES
from model import WORDS, Beside, shown
from seatword import errors
from seatword.asks import could_be, earliest_of, still_open
from seatword.evenings import Evening
from seatword.papers import bars
from things import ANYTHING, NEVER

# Stands and their places: a 4, b 2, c 6, d 4, a b 5, b c 7, a b c 10.
ROOM = (((("a", 4), ("b", 2), ("c", 6)), (("d", 4),)), 1)
# Two tables that cannot be pushed together.
PAIR = (((("a", 2), ("b", 4)),), 4)
# Nothing of this is a number that may stand in a deed.
NO_NUMBERS = [thing for thing in NEVER if not isinstance(thing, int)] + [True, False, 0, -1, 10 ** 59, "2", (1,), [1]]


class Checks(unittest.TestCase):
    def beside(self, room=ROOM, hours=5, grace=1):
        return Beside(self, room, hours, grace)

    def refused(self, beside, refusal, word, *things):
        """This very class, of several that may be due; the model agrees on it and on its field."""
        self.assertEqual(type(beside.tell(word, *things)).__name__, refusal, (word, things))


class First(Checks):
    def test_each_method_stands_in_the_class_itself(self):
        for word in list(WORDS) + ["now", "sheet", "dealing", "late", "waiting", "undo", "deeds"]:
            self.assertIn(word, vars(Evening))

    def test_a_new_evening(self):
        for hours in (1, 5, 12):
            evening = Evening(ROOM, hours, 0)
            self.assertEqual(shown(evening), (0, (hours, (), (), ()), (), [], [], 0))

    def test_lists_are_the_askers_own(self):
        beside = self.beside(hours=3, grace=2)
        beside.tell("book", "anna", 2, 0, 3)
        beside.tell("wait", "bob", 2, 1)
        beside.tell("go_on")
        evening = beside.evening
        self.assertEqual((evening.late(), evening.waiting()), (["anna"], [("bob", 2, 1)]))
        for told in (evening.late(), evening.waiting()):
            told.append("carl")
            told[0] = None
        beside.compare()
        moved = beside.tell("shut", *(evening.dealing()[0][1][0], 1, 1))[1]
        self.assertEqual(moved, ["anna"])
        moved.clear()
        beside.compare()
        gone, lapsed = evening.go_on()
        gone.append("x")
        lapsed.append("y")
        self.assertEqual(evening.late(), ["anna"])

    def test_what_was_told_is_not_changed_later(self):
        evening = Evening(ROOM, 3, 2)
        evening.wait("bob", 2, 1)
        waiting, sheet, dealing = evening.waiting(), evening.sheet(), evening.dealing()
        evening.wait("carl", 2, 1)
        evening.book("anna", 2, 0, 3)
        self.assertEqual((waiting, sheet, dealing), ([("bob", 2, 1)], (3, (), (), ()), ()))

    def test_two_evenings_stand_apart_and_tell_the_same(self):
        one, other, third = (Evening(ROOM, 3, 1) for step in range(3))
        deeds = [("book", "anna", 2, 0, 2), ("book", "bob", 5, 1, 2), ("walk", "carl", 3, 2), ("shut", "a", 1, 1),
                 ("book", "dora", 6, 0, 3), ("wait", "emil", 4, 1), ("call",), ("go_on",), ("call",)]
        for word, *things in deeds:
            self.assertEqual(getattr(one, word)(*things), getattr(other, word)(*things))
            self.assertEqual(shown(one), shown(other))
        self.assertEqual(shown(third), (0, (3, (), (), ()), (), [], [], 0))


class Book(Checks):
    def test_a_yes(self):
        beside = self.beside()
        self.assertEqual(beside.tell("book", "bob", 4, 1, 2), ("yes", []))
        self.assertEqual(beside.tell("book", "anna", 10, 3, 2), ("yes", []))
        self.assertEqual(beside.evening.sheet(), (5, (), (("anna", 10, 3, 2), ("bob", 4, 1, 2)), ()))
        self.assertEqual(beside.evening.deeds(), 2)

    def test_a_no(self):
        beside = self.beside()
        beside.tell("book", "anna", 10, 0, 3)
        word, paper = beside.tell("book", "bob", 7, 2, 1)
        self.assertEqual((word, paper[0], beside.evening.deeds()), ("no", "crowd", 1))
        self.assertEqual(beside.tell("book", "bob", 11, 3, 1)[0], "no")
        # The name is free behind a no.
        self.assertEqual(beside.tell("book", "bob", 7, 3, 2), ("yes", []))

    def test_nobody_is_moved_for_nothing(self):
        beside = self.beside()
        for name in NAMES[:3]:
            beside.tell("book", name, 2, 0, 2)
        before = beside.evening.dealing()
        self.assertEqual(beside.tell("book", "dora", 2, 0, 1), ("yes", []))
        self.assertEqual(beside.evening.dealing()[:3], before)

    def test_moved_names_are_told(self):
        beside = self.beside(PAIR, 2, 0)
        beside.tell("shut", "a", 0, 1)
        beside.tell("book", "anna", 2, 0, 1)
        beside.tell("unshut", "a", 0, 1)
        self.assertEqual(beside.evening.dealing(), (("anna", ("b",)),))
        self.assertEqual(beside.tell("book", "bob", 3, 0, 2), ("yes", ["anna"]))
        self.assertEqual(beside.evening.dealing(), (("anna", ("a",)), ("bob", ("b",))))
        self.assertEqual(beside.tell("book", "carl", 1, 0, 1)[0], "no")

    def test_who_sits_is_not_moved(self):
        beside = self.beside(PAIR, 2, 0)
        beside.tell("shut", "a", 0, 1)
        beside.tell("book", "anna", 2, 0, 1)
        beside.tell("unshut", "a", 0, 1)
        self.assertEqual(beside.tell("come", "anna"), ("b",))
        word, paper = beside.tell("book", "bob", 3, 0, 2)
        self.assertEqual(word, "no")
        sheet = (2, (), (("anna", 2, 0, 1), ("bob", 3, 0, 2)), (("anna", ("b",)),))
        self.assertTrue(bars(PAIR, sheet, (), None, paper))
        self.assertEqual(beside.tell("book", "bob", 3, 1, 1), ("yes", []))

    def test_names(self):
        beside = self.beside()
        beside.tell("book", "anna", 2, 0, 1)
        beside.tell("walk", "bob", 2, 1)
        beside.tell("wait", "carl", 2, 1)
        for name in NEVER + ["A", "anna ", "annaannaa", 5]:
            self.refused(beside, "NoName", "book", name, 2, 0, 1)
        for name in ("anna", "bob", "carl"):
            self.refused(beside, "Taken", "book", name, 2, 0, 1)
        self.assertEqual(beside.tell("book", "abcdefgh", 2, 0, 1)[0], "yes")

    def test_numbers(self):
        beside = self.beside()
        beside.tell("go_on")
        for thing in NO_NUMBERS:
            for numbers in ((thing, 1, 1), (2, thing, 1), (2, 1, thing)):
                self.refused(beside, "NoAsk", "book", "anna", *numbers)
        for numbers in ((0, 1, 1), (61, 1, 1), (2, 0, 1), (2, 1, 0), (2, 1, 5), (2, 4, 2), (2, 5, 1), (2, -1, 3),
                        (10 ** 59, 1, 1), (2, 1, 10 ** 59)):
            self.refused(beside, "NoAsk", "book", "anna", *numbers)
        self.assertEqual(beside.tell("book", "anna", 1, 1, 4)[0], "yes")
        self.assertEqual(beside.tell("book", "bob", 60, 4, 1)[0], "no")

    def test_a_ninth_party(self):
        beside = self.beside(ALIKE, 2, 0)
        for name in NAMES:
            self.assertEqual(beside.tell("book", name, 1, 0, 1), ("yes", []))
        for word, things in (("book", ("zoe", 1, 1, 1)), ("walk", ("zoe", 1, 1))):
            self.refused(beside, "Full", word, *things)
        beside.tell("cancel", "anna")
        self.assertEqual(beside.tell("book", "zoe", 1, 0, 1), ("yes", []))

    def test_several_due(self):
        beside = self.beside(ALIKE, 2, 0)
        for name in NAMES:
            beside.tell("book", name, 1, 0, 1)
        self.refused(beside, "NoName", "book", "A", None, 0, 1)
        self.refused(beside, "Taken", "book", "anna", None, 0, 1)
        self.refused(beside, "NoAsk", "book", "zoe", 1, 0, 3)
        self.refused(beside, "Full", "book", "zoe", 60, 0, 1)
        self.refused(beside, "NoName", "walk", None, 0, 0)
        self.refused(beside, "Taken", "walk", "anna", 0, 0)
        self.refused(beside, "NoAsk", "walk", "zoe", 1, True)


class Change(Checks):
    def test_a_yes_and_a_no(self):
        beside = self.beside()
        beside.tell("book", "anna", 4, 1, 2)
        self.assertEqual(beside.tell("change", "anna", 10, 0, 5), ("yes", []))
        self.assertEqual(beside.evening.sheet()[2], (("anna", 10, 0, 5),))
        word, paper = beside.tell("change", "anna", 11, 0, 5)
        self.assertEqual((word, beside.evening.deeds()), ("no", 2))
        self.assertEqual(beside.evening.sheet()[2], (("anna", 10, 0, 5),))

    def test_the_very_numbers_are_a_deed(self):
        beside = self.beside()
        beside.tell("book", "anna", 4, 1, 2)
        self.assertEqual(beside.tell("change", "anna", 4, 1, 2), ("yes", []))
        self.assertEqual(beside.evening.deeds(), 2)

    def test_the_party_itself_is_neither_counted_nor_told(self):
        # Anna has to leave table a, and bob could stay where he is.
        beside = self.beside(PAIR, 2, 0)
        beside.tell("book", "anna", 2, 0, 1)
        beside.tell("shut", "b", 1, 1)
        for guests, begin, stay in ((4, 0, 1), (2, 1, 1), (3, 0, 1), (1, 0, 2)):
            self.assertEqual(beside.tell("change", "anna", guests, begin, stay), ("yes", []))
        # Anna is free to move, bob and carl are not: moving her is for nothing, moving one of them is not.
        room = (((("a", 2),), (("b", 2),), (("c", 4),)), 0)
        beside = self.beside(room, 1, 0)
        for name in ("anna", "bob", "carl"):
            beside.tell("book", name, 2, 0, 1)
        self.assertEqual(dict(beside.evening.dealing())["carl"], ("c",))
        self.assertEqual(beside.tell("change", "anna", 4, 0, 1), ("yes", ["carl"]))
        self.assertEqual(beside.tell("change", "anna", 2, 0, 1), ("yes", []))

    def test_refusals(self):
        beside = self.beside(PAIR, 3, 3)
        beside.tell("book", "anna", 2, 0, 3)
        beside.tell("walk", "bob", 2, 3)
        beside.tell("wait", "carl", 2, 1)
        beside.tell("go_on")
        for name in NEVER + ["carl", "dora", "ann"]:
            self.refused(beside, "Unknown", "change", name, 2, 1, 1)
        self.refused(beside, "Unknown", "change", "carl", None, 1, 1)
        self.refused(beside, "Sits", "change", "bob", 2, 1, 1)
        self.refused(beside, "Sits", "change", "bob", None, 1, 1)
        for thing in NO_NUMBERS:
            for numbers in ((thing, 1, 1), (2, thing, 1), (2, 1, thing)):
                self.refused(beside, "NoAsk", "change", "anna", *numbers)
        # Also of a late party the begin is from now on.
        self.assertEqual(beside.evening.late(), ["anna"])
        self.refused(beside, "NoAsk", "change", "anna", 2, 0, 3)
        self.assertEqual(beside.tell("change", "anna", 2, 1, 2), ("yes", []))
        self.assertEqual(beside.evening.late(), [])

    def test_eight_parties_may_be_changed(self):
        beside = self.beside(ALIKE, 2, 0)
        for name in NAMES:
            beside.tell("book", name, 1, 0, 1)
        self.assertEqual(beside.tell("change", "hans", 1, 1, 1), ("yes", []))


class Cancel(Checks):
    def test_the_others_keep_their_stands(self):
        beside = self.beside()
        for name in NAMES[:3]:
            beside.tell("book", name, 4, 0, 2)
        before = beside.evening.dealing()
        self.assertIsNone(beside.tell("cancel", "bob"))
        self.assertEqual(beside.evening.dealing(), before[:1] + before[2:])
        self.assertEqual(beside.evening.deeds(), 4)

    def test_refusals(self):
        beside = self.beside()
        beside.tell("book", "anna", 4, 0, 2)
        beside.tell("come", "anna")
        beside.tell("wait", "bob", 2, 1)
        for name in ANYTHING:
            if name != "anna":
                self.refused(beside, "Unknown", "cancel", name)
        self.refused(beside, "Unknown", "cancel", "bob")
        self.refused(beside, "Sits", "cancel", "anna")
        name = ["anna"]
        with self.assertRaises(errors.Unknown) as caught:
            beside.evening.cancel(name)
        self.assertEqual(caught.exception.name, name)


class Shut(Checks):
    def test_shuts_in_the_order_told(self):
        beside = self.beside()
        for shut in (("d", 1, 2), ("a", 0, 5), ("d", 1, 2), ("d", 0, 1)):
            self.assertEqual(beside.tell("shut", *shut), ("yes", []))
        self.assertEqual(beside.evening.sheet()[1], (("d", 1, 2), ("a", 0, 5), ("d", 1, 2), ("d", 0, 1)))

    def test_it_moves_and_is_answered_no(self):
        beside = self.beside(PAIR, 3, 0)
        beside.tell("book", "anna", 2, 1, 1)
        table = beside.evening.dealing()[0][1][0]
        other = "b" if table == "a" else "a"
        self.assertEqual(beside.tell("shut", table, 0, 1), ("yes", []))
        self.assertEqual(beside.tell("shut", table, 1, 1), ("yes", ["anna"]))
        word, paper = beside.tell("shut", other, 0, 3)
        self.assertEqual((word, beside.evening.deeds()), ("no", 3))

    def test_a_table_that_is_sat_at(self):
        beside = self.beside(PAIR, 3, 0)
        beside.tell("walk", "anna", 2, 2)
        table = beside.evening.dealing()[0][1][0]
        self.assertEqual(beside.tell("shut", table, 1, 1)[0], "no")
        self.assertEqual(beside.tell("shut", table, 2, 1), ("yes", []))

    def test_refusals(self):
        beside = self.beside()
        beside.tell("go_on")
        for table in NEVER + ["z", "e", "", "ab", ("a",), "A"]:
            self.refused(beside, "NoAsk", "shut", table, 1, 1)
        for thing in NO_NUMBERS:
            for numbers in ((thing, 1), (1, thing)):
                self.refused(beside, "NoAsk", "shut", "a", *numbers)
        for numbers in ((0, 1), (0, 3), (1, 5), (5, 1), (-1, 1), (4, 2)):
            self.refused(beside, "NoAsk", "shut", "a", *numbers)
        self.assertEqual(beside.tell("shut", "a", 1, 4), ("yes", []))

    def test_a_thirteenth(self):
        beside = self.beside()
        for step in range(12):
            self.assertEqual(beside.tell("shut", "d", step % 5, 1), ("yes", []))
        self.refused(beside, "Full", "shut", "d", 0, 1)
        self.refused(beside, "Full", "shut", "a", 4, 1)
        self.refused(beside, "NoAsk", "shut", "a", 4, 2)
        self.refused(beside, "NoAsk", "shut", "z", 4, 1)
        beside.tell("unshut", "d", 0, 1)
        self.assertEqual(beside.tell("shut", "a", 4, 1), ("yes", []))

    def test_unshut_of_the_first_of_several_alike(self):
        beside = self.beside()
        one, two, three = ("a", 0, 2), ("b", 1, 1), ("a", 0, 1)
        for shut in (one, two, one, three, two, one):
            beside.tell("shut", *shut)
        self.assertIsNone(beside.tell("unshut", *one))
        self.assertEqual(beside.evening.sheet()[1], (two, one, three, two, one))
        beside.tell("unshut", *two)
        self.assertEqual(beside.evening.sheet()[1], (one, three, two, one))
        beside.tell("unshut", *three)
        beside.tell("unshut", *one)
        self.assertEqual(beside.evening.sheet()[1], (two, one))
        self.assertEqual(beside.evening.deeds(), 10)

    def test_unshut_of_what_is_not_there(self):
        beside = self.beside()
        beside.tell("shut", "a", 1, 1)
        beside.tell("shut", "b", 0, 1)
        for things in (("a", 1, 2), ("a", 0, 1), ("c", 1, 1), ("b", 1, 1), ("a", True, 1), ("a", 1, True),
                       ("a", True, True), ("b", False, 1), ("b", 0, True), ("z", 1, 1), (("a",), 1, 1)):
            self.refused(beside, "NoShut", "unshut", *things)
        for thing in ANYTHING:
            for things in ((thing, 1, 1), ("a", thing, 1), ("a", 1, thing), (thing, thing, thing)):
                if things not in (("a", 1, 1), ("b", 0, 1)) or any(type(part) is bool for part in things):
                    self.refused(beside, "NoShut", "unshut", *things)

    def test_unshut_of_a_begin_ahead_of_now(self):
        beside = self.beside()
        beside.tell("shut", "a", 0, 2)
        beside.tell("go_on")
        self.assertIsNone(beside.tell("unshut", "a", 0, 2))
        self.assertEqual(beside.evening.sheet()[1], ())

    def test_unshut_leaves_all_their_stands(self):
        beside = self.beside(PAIR, 2, 0)
        beside.tell("shut", "a", 0, 1)
        beside.tell("book", "anna", 2, 0, 1)
        beside.tell("unshut", "a", 0, 1)
        self.assertEqual(beside.evening.dealing(), (("anna", ("b",)),))


class ToldAhead(Checks):
    def test_asks_are_said_yes_to_just_where_it_was_told(self):
        beside = self.beside(ROOM, 4, 4)
        for deed in (("book", "anna", 5, 0, 2), ("book", "bob", 4, 1, 2), ("walk", "carl", 2, 3), ("shut", "d", 2, 1),
                     ("go_on",), ("book", "dora", 3, 2, 2)):
            beside.tell(*deed)
            sheet, now = beside.evening.sheet(), beside.evening.now()
            for stay in range(1, 5 - now):
                for begin, most in list(enumerate(still_open(ROOM, sheet, stay)))[now:]:
                    for guests in (1, 2, 4, 5, 6, 7, 10, 11):
                        told = beside.tell("book", "zoe", guests, begin, stay)
                        self.assertEqual(told[0] == "yes", guests <= most)
                        self.assertEqual(told[0] == "yes", could_be(ROOM, sheet, guests, begin, stay))
                        least = earliest_of(ROOM, sheet, guests, stay, now)
                        self.assertFalse(told[0] == "yes" and begin < least)
                        if told[0] == "yes":
                            beside.undo()


if __name__ == "__main__":
    unittest.main()
