"""Point [14], and [2] of seatword.free."""

import unittest

from seatword.free import is_open, open_stands
from seatword.rooms import stands_of
from small import open_to, small_cases, stands_open_to

# Stands and their places: a 4, b 2, c 6, d 4, a b 5, b c 7, a b c 10.
ROOM = (((("a", 4), ("b", 2), ("c", 6)), (("d", 4),)), 1)


def sheet_of(parties, shuts=(), seats=()):
    return (6, shuts, parties, seats)


class Open(unittest.TestCase):
    def check(self, sheet, name, stands):
        self.assertEqual(open_stands(ROOM, sheet, name), stands)
        for stand in stands_of(ROOM):
            self.assertIs(is_open(ROOM, sheet, name, stand), stand in stands, stand)

    def test_places(self):
        for guests, many in ((1, 7), (2, 7), (3, 6), (4, 6), (5, 4), (6, 3), (7, 2), (8, 1), (10, 1), (11, 0), (60, 0)):
            self.assertEqual(len(open_stands(ROOM, sheet_of((("anna", guests, 0, 1),)), "anna")), many)
        self.check(sheet_of((("anna", 5, 0, 1),)), "anna", [("c",), ("a", "b"), ("b", "c"), ("a", "b", "c")])
        self.check(sheet_of((("anna", 6, 0, 1),)), "anna", [("c",), ("b", "c"), ("a", "b", "c")])

    def test_shuts(self):
        party = (("anna", 4, 2, 2),)
        every = [("a",), ("c",), ("d",), ("a", "b"), ("b", "c"), ("a", "b", "c")]
        without = [("a",), ("c",), ("d",)]
        for begin, stay, stands in ((2, 1, without), (3, 1, without), (0, 2, every), (1, 1, every), (4, 1, every),
                                    (4, 2, every), (0, 3, without), (3, 3, without), (0, 6, without)):
            self.check(sheet_of(party, (("b", begin, stay),)), "anna", stands)

    def test_several_shuts(self):
        party = (("anna", 1, 2, 2),)
        self.check(sheet_of(party, (("a", 2, 1), ("d", 3, 1), ("a", 2, 1))), "anna", [("b",), ("c",), ("b", "c")])
        self.check(sheet_of(party, (("a", 2, 1), ("b", 0, 6), ("c", 3, 1), ("d", 3, 1))), "anna", [])

    def test_the_seat_of_another(self):
        every = [("a",), ("c",), ("d",), ("a", "b"), ("b", "c"), ("a", "b", "c")]
        for begin, stay, stands in ((1, 2, [("c",), ("d",)]), (3, 1, [("c",), ("d",)]), (0, 6, [("c",), ("d",)]),
                                    (0, 2, every), (4, 2, every)):
            sheet = sheet_of((("anna", 4, 2, 2), ("bob", 1, begin, stay)), (), (("bob", ("a", "b")),))
            self.check(sheet, "anna", stands)

    def test_others_ahead_and_behind_by_name(self):
        sheet = sheet_of((("anna", 1, 0, 1), ("bob", 4, 0, 1), ("carl", 1, 0, 1)), (),
                         (("anna", ("a",)), ("carl", ("c",))))
        self.check(sheet, "bob", [("d",)])

    def test_another_without_a_seat(self):
        self.check(sheet_of((("anna", 7, 0, 1), ("bob", 7, 0, 1))), "anna", [("b", "c"), ("a", "b", "c")])

    def test_its_own_seat(self):
        for stand in (("a",), ("d",), ("a", "b"), ("a", "b", "c")):
            self.check(sheet_of((("anna", 4, 0, 1),), (), (("anna", stand),)), "anna", [stand])

    def test_its_own_seat_that_is_not_open(self):
        party = ("anna", 4, 0, 2)
        self.check(sheet_of((party,), (), (("anna", ("b",)),)), "anna", [])
        self.check(sheet_of((party,), (("d", 1, 1),), (("anna", ("d",)),)), "anna", [])
        both = sheet_of((party, ("bob", 1, 1, 1)), (), (("anna", ("a",)), ("bob", ("a", "b"))))
        self.check(both, "anna", [])
        self.check(both, "bob", [])
        apart = sheet_of((party, ("bob", 1, 2, 1)), (), (("anna", ("a",)), ("bob", ("a", "b"))))
        self.check(apart, "anna", [("a",)])
        self.check(apart, "bob", [("a", "b")])

    def test_the_list_is_the_askers_own(self):
        sheet = sheet_of((("anna", 6, 0, 1), ("bob", 1, 0, 1)), (("a", 0, 1),))
        told = open_stands(ROOM, sheet, "anna")
        self.assertEqual(told, [("c",), ("b", "c")])
        told.append(("a",))
        told[0] = None
        other_room = (((("a", 9), ("c", 9)),), 0)
        self.assertEqual(open_stands(other_room, sheet, "anna"), [("c",)])
        self.assertEqual(open_stands(ROOM, sheet[:1] + ((),) + sheet[2:], "anna"),
                         [("c",), ("b", "c"), ("a", "b", "c")])
        self.assertEqual(open_stands(ROOM, sheet, "bob"), [("b",), ("c",), ("d",), ("b", "c")])
        self.assertEqual(open_stands(ROOM, sheet, "anna"), [("c",), ("b", "c")])
        self.assertEqual(sheet, sheet_of((("anna", 6, 0, 1), ("bob", 1, 0, 1)), (("a", 0, 1),)))

    def test_small_sheets(self):
        for room, sheet, old in small_cases(300, 14):
            for party in sheet[2]:
                self.assertEqual(open_stands(room, sheet, party[0]), stands_open_to(room, sheet, party[0]))
                for stand in stands_of(room):
                    self.assertIs(is_open(room, sheet, party[0], stand), open_to(room, sheet, party[0], stand))


if __name__ == "__main__":
    unittest.main()
