"""Points [15] and [16], and [2] of seatword.dealings."""

import itertools
import unittest

from seatword.dealings import fault_of, moved_names
from seatword.rooms import stands_of
from small import dealings_of, small_cases
from things import ANYTHING, NEVER, cut_or_grown, spoilt

# Stands and their places: a 4, b 2, c 6, d 4, a b 5, b c 7, a b c 10.
ROOM = (((("a", 4), ("b", 2), ("c", 6)), (("d", 4),)), 1)
PARTIES = (("anna", 4, 0, 2), ("bob", 2, 1, 2), ("carl", 5, 2, 2))
SHEET = (4, (("d", 0, 1),), PARTIES, ())
DEALING = (("anna", ("a",)), ("bob", ("b",)), ("carl", ("c",)))
NONE = (4, (("d", 0, 1),), (), ())


def dealt(anna, bob, carl):
    return (("anna", tuple(anna)), ("bob", tuple(bob)), ("carl", tuple(carl)))


class Faults(unittest.TestCase):
    def check(self, thing, fault, sheet=SHEET):
        self.assertEqual(fault_of(ROOM, sheet, thing), fault)

    def test_a_dealing_has_none(self):
        self.assertIsNone(fault_of(ROOM, SHEET, DEALING))
        self.assertIsNone(fault_of(ROOM, NONE, ()))

    def test_one_ends_as_the_other_begins(self):
        self.check(dealt("a", "b", "c"), None)
        self.assertIsNone(fault_of(ROOM, SHEET, dealt("c", "d", "c")))
        self.assertIsNone(fault_of(ROOM, SHEET, dealt("ab", "d", "abc")))

    def test_form_of_no_parties(self):
        for thing in ([], None, {}, "", 0, False, ((),), (("anna", ("a",)),), DEALING):
            self.check(thing, ("form",), NONE)

    def test_form_of_lists(self):
        self.check(list(DEALING), ("form",))
        self.check(tuple(list(seat) for seat in DEALING), ("form",))
        self.check(tuple((name, list(stand)) for name, stand in DEALING), ("form",))

    def test_form_of_names(self):
        anna, bob, carl = DEALING
        for thing in ((), (anna,), (anna, bob), (bob, carl), (anna, carl), DEALING + (("dora", ("d",)),),
                      (("aa", ("d",)),) + DEALING, (anna, anna, bob, carl), (anna, bob, bob), (anna, bob, carl, carl),
                      (bob, anna, carl), (anna, carl, bob), (carl, bob, anna), (anna, bob, ("dora", ("c",))),
                      (anna, bob, ("Carl", ("c",))), (anna, bob, (None, ("c",))), (anna, bob, (("carl",), ("c",)))):
            self.check(thing, ("form",))

    def test_form_of_stands(self):
        for stand in (("z",), (), ("a", "c"), ("b", "a"), ("c", "d"), ("a", "a"), "c", None, 5, ["c"], ("e",)):
            self.check(DEALING[:2] + (("carl", stand),), ("form",))
            self.check((("anna", stand),) + DEALING[1:], ("form",))

    def test_form_of_a_stand_of_another_room(self):
        other = (((("a", 4), ("c", 6)), (("d", 4), ("b", 2))), 1)
        self.assertEqual(fault_of(ROOM, SHEET, dealt("ab", "d", "c")), None)
        self.assertEqual(fault_of(other, SHEET, dealt("ab", "d", "c")), ("form",))
        self.assertEqual(fault_of(other, SHEET, dealt("ac", "b", "c")), None)
        self.assertEqual(fault_of(ROOM, SHEET, dealt("ac", "b", "c")), ("form",))

    def test_form_of_seats_too_short_and_too_long(self):
        for seat in ((), ("carl",), ("carl", ("c",), None), ("carl", "c", "c"), None, "carl", 7):
            self.check(DEALING[:2] + (seat,), ("form",))

    def test_form_of_anything(self):
        for thing in ANYTHING:
            if thing != ():
                self.check(thing, ("form",))
        for thing in spoilt(DEALING, NEVER):
            self.check(thing, ("form",))
        for thing in list(spoilt(DEALING, ANYTHING)) + list(cut_or_grown(DEALING)):
            fault = fault_of(ROOM, SHEET, thing)
            self.assertTrue(fault is None or fault[0] in ("form", "stand", "over"))

    def test_a_stand_with_too_few_places(self):
        self.check(dealt("b", "d", "c"), ("stand", "anna"))
        self.check(dealt("a", "b", "d"), ("stand", "carl"))
        self.check(dealt("a", "b", "c"), ("stand", "bob"), (4, (), (PARTIES[0], ("bob", 3, 1, 2), PARTIES[2]), ()))

    def test_a_stand_that_is_shut(self):
        self.check(dealt("d", "b", "c"), ("stand", "anna"))
        self.check(dealt("a", "d", "c"), None)

    def test_a_seat_of_its_own_and_of_others(self):
        sheet = SHEET[:3] + ((("bob", ("b",)),),)
        self.check(DEALING, None, sheet)
        self.check(dealt("a", "d", "c"), ("stand", "bob"), sheet)
        self.check(dealt("ab", "b", "c"), ("stand", "anna"), sheet)
        self.check(dealt("a", "b", "bc"), ("stand", "carl"), sheet)

    def test_the_first_name_whose_stand_is_not_open(self):
        self.check(dealt("b", "b", "d"), ("stand", "anna"))
        self.check(dealt("a", "b", "b"), ("stand", "carl"))
        self.check(dealt("d", "b", "b"), ("stand", "anna"))

    def test_over(self):
        self.check(dealt("ab", "b", "c"), ("over", "anna", "bob"))
        self.check(dealt("a", "c", "c"), ("over", "bob", "carl"))

    def test_the_first_pair(self):
        parties = tuple((name, 1, 0, 1) for name in ("anna", "bob", "carl", "dora"))
        sheet = (1, (), parties, ())
        for stands, fault in ((("a", "a", "a", "a"), ("over", "anna", "bob")),
                              (("a", "b", "a", "b"), ("over", "anna", "carl")),
                              (("a", "b", "b", "a"), ("over", "anna", "dora")),
                              (("d", "b", "b", "b"), ("over", "bob", "carl")),
                              (("d", "b", "c", "b"), ("over", "bob", "dora")),
                              (("d", "b", "c", "c"), ("over", "carl", "dora")),
                              (("d", "c", "b", "a"), None)):
            thing = tuple((party[0], (stand,)) for party, stand in zip(parties, stands))
            self.check(thing, fault, sheet)

    def test_form_goes_ahead_of_stand_and_stand_ahead_of_over(self):
        self.check(dealt("b", "b", "z"), ("form",))
        self.check(dealt("ab", "b", "d"), ("stand", "carl"))
        self.check(dealt("ab", "b", "z"), ("form",))

    def test_small_sheets(self):
        kinds = set()
        for room, sheet, old in small_cases(60, 15):
            sheet = sheet[:2] + (sheet[2][:3],) + (tuple(seat for seat in sheet[3] if seat[0] != "dora"),)
            every = set(dealings_of(room, sheet))
            names = [party[0] for party in sheet[2]]
            for stands in itertools.product(stands_of(room), repeat=len(names)):
                thing = tuple(zip(names, stands))
                fault = fault_of(room, sheet, thing)
                self.assertEqual(fault is None, thing in every)
                kinds.add(fault and fault[0])
        self.assertEqual(kinds, {None, "stand", "over"})


class Moved(unittest.TestCase):
    def test_those_with_unlike_stands_in_both(self):
        self.assertEqual(moved_names(dealt("a", "b", "c"), dealt("a", "b", "c")), [])
        self.assertEqual(moved_names(dealt("a", "b", "c"), dealt("a", "d", "c")), ["bob"])
        self.assertEqual(moved_names(dealt("a", "b", "c"), dealt("c", "d", "a")), ["anna", "bob", "carl"])
        self.assertEqual(moved_names(dealt("a", "b", "c"), dealt("ab", "b", "bc")), ["anna", "carl"])

    def test_those_in_one_alone(self):
        self.assertEqual(moved_names((), DEALING), [])
        self.assertEqual(moved_names(DEALING, ()), [])
        self.assertEqual(moved_names((), ()), [])
        self.assertEqual(moved_names((("aaa", ("a",)), ("carl", ("d",)), ("zoe", ("b",))), DEALING), ["carl"])
        self.assertEqual(moved_names(dealt("d", "d", "d"), DEALING[1:]), ["bob", "carl"])

    def test_the_list_is_the_askers_own(self):
        old = dealt("a", "d", "d")
        told = moved_names(old, DEALING)
        self.assertEqual(told, ["bob", "carl"])
        told.append("anna")
        told[0] = None
        self.assertEqual(moved_names(old, DEALING), ["bob", "carl"])
        self.assertEqual(old, dealt("a", "d", "d"))


if __name__ == "__main__":
    unittest.main()
