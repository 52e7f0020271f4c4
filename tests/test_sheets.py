"""Points [12] and [13], and [2] of seatword.sheets."""

import unittest

from seatword.rooms import stands_of
from seatword.sheets import (is_sheet, is_span, party_of, seat_of, share_hours, with_party, with_seat,
                             without_party)
from things import ANYTHING, NEVER, cut_or_grown, spoilt

ROOM = (((("a", 4), ("b", 2), ("c", 6)), (("f", 3), ("e", 5))), 1)
ANNA = ("anna", 4, 0, 2)
BOB = ("bob", 1, 2, 3)
CARL = ("carl", 60, 0, 5)
SHEET = (5, (("e", 1, 2), ("a", 0, 5)), (ANNA, BOB, CARL), (("anna", ("a", "b")), ("carl", ("c",))))
EMPTY = (1, (), (), ())
LETTERS = "abcdefghi"


def sheet_of(hours=5, shuts=(), parties=(), seats=()):
    return (hours, shuts, parties, seats)


def hours_in(span):
    return set(range(span[0], span[0] + span[1]))


class Spans(unittest.TestCase):
    def test_bounds(self):
        for hours in range(1, 13):
            for begin in range(-2, 15):
                for stay in range(-2, 15):
                    fits = begin >= 0 and stay >= 1 and begin + stay - 1 in range(hours)
                    self.assertIs(is_span(hours, begin, stay), fits, (hours, begin, stay))

    def test_truths(self):
        self.assertIs(is_span(5, 0, 1), True)
        self.assertIs(is_span(5, False, 1), False)
        self.assertIs(is_span(5, True, 1), False)
        self.assertIs(is_span(5, 0, True), False)
        self.assertIs(is_span(5, 0, False), False)

    def test_of_anything(self):
        for thing in NEVER + [10 ** 59, "0", "1", (), (0,), (1,), [0], [1]]:
            self.assertIs(is_span(12, thing, 1), False)
            self.assertIs(is_span(12, 0, thing), False)
            self.assertIs(is_span(12, thing, thing), False)
        self.assertIs(is_span(12, -(10 ** 59), 10 ** 59), False)
        self.assertIs(is_span(12, 10 ** 59, -(10 ** 59)), False)

    def test_share_hours(self):
        for one, other, shares in (((0, 2), (2, 3), False), ((0, 3), (2, 3), True), ((0, 5), (1, 2), True),
                                   ((3, 1), (3, 1), True), ((0, 1), (11, 1), False), ((0, 12), (11, 1), True),
                                   ((0, 12), (0, 1), True), ((4, 2), (4, 5), True), ((4, 2), (6, 1), False)):
            self.assertIs(share_hours(one, other), shares, (one, other))
            self.assertIs(share_hours(other, one), shares, (one, other))

    def test_share_hours_of_all_spans_of_six_hours(self):
        spans = [(begin, stay) for begin in range(6) for stay in range(1, 7 - begin)]
        for one in spans:
            for other in spans:
                self.assertIs(share_hours(one, other), bool(hours_in(one) & hours_in(other)), (one, other))


class IsSheet(unittest.TestCase):
    def check(self, thing, fits):
        self.assertIs(is_sheet(ROOM, thing), fits, thing)

    def test_sheets(self):
        self.check(SHEET, True)
        self.check(EMPTY, True)

    def test_hours(self):
        for hours, fits in ((-1, False), (0, False), (1, True), (12, True), (13, False), (True, False),
                            (10 ** 59, False), ("5", False), (None, False)):
            self.check(sheet_of(hours), fits)
        self.check(sheet_of(True, (("a", 0, 1),)), False)

    def test_how_many_shuts(self):
        self.check(sheet_of(5, (("a", 0, 1),)), True)
        self.check(sheet_of(5, (("a", 0, 1),) * 12), True)
        self.check(sheet_of(5, (("a", 0, 1),) * 13), False)
        many = tuple((table, begin, 1) for begin in (3, 1, 2) for table in "fabe")
        self.check(sheet_of(5, many), True)
        self.check(sheet_of(5, many + (("c", 0, 5),)), False)

    def test_shuts(self):
        for shut, fits in ((("e", 0, 5), True), (("e", 4, 1), True), (("e", 4, 2), False), (("e", 5, 1), False),
                           (("e", 0, 6), False), (("e", 0, 0), False), (("e", -1, 1), False), (("z", 0, 1), False),
                           (("", 0, 1), False), (("e", True, 1), False), (("e", 0, True), False),
                           ((("e",), 0, 1), False), (("e", 0), False), (("e", 0, 1, 1), False), (["e", 0, 1], False),
                           ((["e"], 0, 1), False), (None, False), ("e", False), ((), False)):
            self.check(sheet_of(5, (shut,)), fits)
            self.check(sheet_of(5, (("a", 0, 1), shut)), fits)

    def test_how_many_parties(self):
        for many, fits in ((0, True), (1, True), (8, True), (9, False)):
            self.check(sheet_of(5, (), tuple((name, 1, 0, 1) for name in LETTERS[:many])), fits)

    def test_guests(self):
        for guests, fits in ((-1, False), (0, False), (1, True), (60, True), (61, False), (True, False),
                             (10 ** 59, False), ("4", False), (None, False)):
            self.check(sheet_of(5, (), (("anna", guests, 0, 1),)), fits)

    def test_spans_of_parties(self):
        for begin, stay, fits in ((0, 5, True), (4, 1, True), (2, 3, True), (2, 4, False), (5, 1, False),
                                  (0, 6, False), (0, 0, False), (-1, 2, False), (True, 1, False), (0, True, False),
                                  (None, 1, False), (0, "1", False)):
            self.check(sheet_of(5, (), (("anna", 2, begin, stay),)), fits)

    def test_names_of_parties(self):
        for name, fits in (("a", True), ("abcdefgh", True), ("abcdefghi", False), ("", False), ("Anna", False),
                           ("a b", False), ("anna\n", False), (None, False), (("anna",), False), (["anna"], False)):
            self.check(sheet_of(5, (), ((name, 2, 0, 1),)), fits)

    def test_parties_rise(self):
        self.check(sheet_of(5, (), (ANNA, BOB)), True)
        self.check(sheet_of(5, (), (BOB, ANNA)), False)
        self.check(sheet_of(5, (), (ANNA, CARL, BOB)), False)
        self.check(sheet_of(5, (), (ANNA, ANNA)), False)
        self.check(sheet_of(5, (), (ANNA, ("anna", 9, 1, 1), BOB)), False)
        self.check(sheet_of(5, (), (("a", 1, 0, 1), ("aa", 1, 0, 1), ("b", 1, 0, 1))), True)

    def test_parties_that_are_none(self):
        for party in ((), ("anna",), ("anna", 4, 0), ("anna", 4, 0, 2, 1), ["anna", 4, 0, 2], None, "anna", 5):
            self.check(sheet_of(5, (), (party,)), False)
            self.check(sheet_of(5, (), (ANNA, party)), False)

    def test_seats(self):
        for stand in stands_of(ROOM):
            self.check(sheet_of(5, (), (ANNA, BOB), (("bob", stand),)), True)
        for seat in (("carl", ("a",)), ("bob", ("z",)), ("bob", ()), ("bob", ("b", "a")), ("bob", ("a", "c")),
                     ("bob", ("c", "f")), ("bob", "a"), ("bob", ["a"]), ("bob", None), ("bob",), ("bob", ("a",), 1),
                     ["bob", ("a",)], (None, ("a",)), (["bob"], ("a",)), "bob", None, ()):
            self.check(sheet_of(5, (), (ANNA, BOB), (seat,)), False)

    def test_seats_rise(self):
        one, other = ("anna", ("a",)), ("bob", ("b",))
        self.check(sheet_of(5, (), (ANNA, BOB, CARL), (one, other)), True)
        self.check(sheet_of(5, (), (ANNA, BOB, CARL), (other, one)), False)
        self.check(sheet_of(5, (), (ANNA, BOB, CARL), (one, one)), False)
        self.check(sheet_of(5, (), (ANNA, BOB, CARL), (one, ("anna", ("b",)))), False)

    def test_a_seat_of_nobody(self):
        self.check(sheet_of(5, (), (), (("anna", ("a",)),)), False)
        self.check(sheet_of(5, (), (BOB,), (("anna", ("a",)), ("bob", ("b",)))), False)

    def test_a_seat_need_not_be_open(self):
        self.check(sheet_of(5, (), (CARL,), (("carl", ("b",)),)), True)
        self.check(sheet_of(5, (("a", 0, 5),), (ANNA,), (("anna", ("a",)),)), True)
        self.check(sheet_of(5, (), (ANNA, CARL), (("anna", ("a",)), ("carl", ("a", "b")))), True)

    def test_a_seat_for_each_of_eight(self):
        parties = tuple((name, 1, 0, 1) for name in LETTERS[:8])
        self.check(sheet_of(5, (), parties, tuple((name, ("a",)) for name in LETTERS[:8])), True)
        self.check(sheet_of(5, (), parties, tuple((name, ("a",)) for name in LETTERS[:9])), False)

    def test_no_tuples(self):
        for thing in (list(SHEET), SHEET[:3], SHEET + ((),), (5, [], (), ()), (5, (), [], ()), (5, (), (), []),
                      (5, None, (), ()), (5, (), {}, ()), (5, (), (), ""), (5, "", "", ""), ((), (), (), ()), ()):
            self.check(thing, False)

    def test_another_room(self):
        other = (((("a", 4), ("b", 2), ("c", 6)),), 1)
        self.assertIs(is_sheet(other, SHEET), False)
        self.assertIs(is_sheet(other, sheet_of(5, (), SHEET[2], SHEET[3])), True)
        self.assertIs(is_sheet((((("b", 2), ("a", 4)), (("c", 1),)), 0), sheet_of(5, (), SHEET[2], SHEET[3])), False)
        narrow = (((("a", 1), ("b", 1), ("c", 6)),), 4)
        self.assertIs(is_sheet(narrow, sheet_of(5, (), SHEET[2], SHEET[3])), False)
        self.check(SHEET, True)

    def test_of_anything(self):
        for thing in ANYTHING:
            self.check(thing, False)
        for thing in spoilt(SHEET, NEVER):
            self.check(thing, False)
        for thing in list(spoilt(SHEET, ANYTHING)) + list(cut_or_grown(SHEET)):
            self.assertIn(is_sheet(ROOM, thing), (True, False))


class Changes(unittest.TestCase):
    def test_party_of(self):
        for party in (ANNA, BOB, CARL):
            self.assertEqual(party_of(SHEET, party[0]), party)

    def test_seat_of(self):
        self.assertEqual(seat_of(SHEET, "anna"), ("a", "b"))
        self.assertEqual(seat_of(SHEET, "carl"), ("c",))
        self.assertIsNone(seat_of(SHEET, "bob"))

    def test_with_seat(self):
        before = repr(SHEET)
        self.assertEqual(with_seat(SHEET, "bob", ("f", "e")),
                         SHEET[:3] + ((("anna", ("a", "b")), ("bob", ("f", "e")), ("carl", ("c",))),))
        self.assertEqual(repr(SHEET), before)
        bare = SHEET[:3] + ((),)
        self.assertEqual(with_seat(bare, "carl", ("c",))[3], (("carl", ("c",)),))
        both = with_seat(with_seat(bare, "carl", ("a",)), "anna", ("f",))
        self.assertEqual(both, SHEET[:3] + ((("anna", ("f",)), ("carl", ("a",))),))
        self.assertEqual(with_seat(both, "bob", ("e",))[3],
                         (("anna", ("f",)), ("bob", ("e",)), ("carl", ("a",))))

    def test_with_party(self):
        before = repr(SHEET)
        for name, at in (("aaa", 0), ("annb", 1), ("bobb", 2), ("zoe", 3)):
            party = (name, 60, 4, 1)
            told = with_party(SHEET, party)
            self.assertEqual(told, SHEET[:2] + (SHEET[2][:at] + (party,) + SHEET[2][at:], SHEET[3]))
            self.assertIs(is_sheet(ROOM, told), True)
        self.assertEqual(with_party(EMPTY, ("a", 1, 0, 1)), (1, (), (("a", 1, 0, 1),), ()))
        self.assertEqual(repr(SHEET), before)

    def test_without_party(self):
        before = repr(SHEET)
        self.assertEqual(without_party(SHEET, "anna"), SHEET[:2] + ((BOB, CARL), (("carl", ("c",)),)))
        self.assertEqual(without_party(SHEET, "bob"), SHEET[:2] + ((ANNA, CARL), SHEET[3]))
        self.assertEqual(without_party(SHEET, "carl"), SHEET[:2] + ((ANNA, BOB), (("anna", ("a", "b")),)))
        self.assertEqual(without_party((3, (), (ANNA,), (("anna", ("a",)),)), "anna"), (3, (), (), ()))
        self.assertEqual(repr(SHEET), before)

    def test_one_more_and_one_less_is_the_same(self):
        self.assertEqual(without_party(with_party(SHEET, ("aa", 2, 1, 1)), "aa"), SHEET)

    def test_shuts_keep_their_order(self):
        for told in (with_seat(SHEET, "bob", ("e",)), with_party(SHEET, ("x", 1, 0, 1)), without_party(SHEET, "bob")):
            self.assertEqual(told[:2], SHEET[:2])


if __name__ == "__main__":
    unittest.main()
