"""Points [22] and [23], and [2] of seatword.asks."""

import random
import unittest

from great import ALIKE, NAMES, Soon, great_room, great_sheet, parties_alike
from seatword.asks import could_be, earliest_of, greatest_of, still_open
from small import fewest_by_steps, small_cases, some_seats, stands_in

# Stands and their places: a 4, b 4, c 2, d 4, a b 7, b c 5, a b c 8.
ROOM = (((("a", 4), ("b", 4), ("c", 2)), (("d", 4),)), 1)
LARGE = (((("a", 20), ("b", 20), ("c", 20)),), 0)
EMPTY = (3, (), (), ())


def could(room, sheet, guests, begin, stay):
    """Point [22] anew; zzz is a name that no party has here."""
    if len(sheet[2]) >= 8:
        return False
    other = sheet[:2] + (sheet[2] + (("zzz", guests, begin, stay),), sheet[3])
    return fewest_by_steps(room, other, ()) is not None


def sizes(room):
    """The numbers of places of stands, one more and one less, 1 and 60."""
    found = {1, 60}
    for stand, places in stands_in(room):
        found |= {places - 1, places, places + 1}
    return sorted(guests for guests in found if 1 <= guests <= 60)


class Asks(unittest.TestCase):
    def check(self, room, sheet):
        hours = sheet[0]
        spans = [(begin, stay) for stay in range(1, hours + 1) for begin in range(hours - stay + 1)]
        fits = {(guests, span): could(room, sheet, guests, *span) for span in spans for guests in sizes(room)}
        for (guests, span), yes in fits.items():
            self.assertIs(could_be(room, sheet, guests, *span), yes, (room, sheet, guests, span))
        most = {span: max([guests for guests in sizes(room) if fits[guests, span]], default=0) for span in spans}
        for span in spans:
            told = greatest_of(room, sheet, *span)
            self.assertEqual((told, type(told)), (most[span], int))
        for stay in range(1, hours + 1):
            told = still_open(room, sheet, stay)
            self.assertEqual(told, [most[begin, stay] for begin in range(hours - stay + 1)])
            self.assertIs(type(told), list)
            for guests in sizes(room):
                begins = [begin for begin in range(hours - stay + 1) if fits[guests, (begin, stay)]]
                for begin in list(range(hours + 2)) + [10 ** 60 - 1]:
                    least = min([one for one in begins if one >= begin], default=None)
                    self.assertEqual(earliest_of(room, sheet, guests, stay, begin), least)
        return most

    def test_nobody_is_booked(self):
        for guests in range(1, 61):
            self.assertIs(could_be(ROOM, EMPTY, guests, 0, 3), guests <= 8)
        self.assertEqual(still_open(ROOM, EMPTY, 1), [8, 8, 8])
        self.assertEqual(still_open(ROOM, EMPTY, 3), [8])
        self.assertEqual(earliest_of(ROOM, EMPTY, 8, 2, 0), 0)
        self.check(ROOM, EMPTY)

    def test_sixty_guests(self):
        self.assertEqual(greatest_of(LARGE, EMPTY, 1, 2), 60)
        self.assertIs(could_be(LARGE, EMPTY, 60, 0, 1), True)
        self.assertEqual(earliest_of(LARGE, EMPTY, 60, 1, 2), 2)
        few = (LARGE[0], 1)
        self.assertEqual(greatest_of(few, EMPTY, 1, 2), 58)
        self.assertIs(could_be(few, EMPTY, 60, 0, 1), False)
        self.assertIs(could_be(few, EMPTY, 59, 0, 1), False)

    def test_one_is_booked_and_leaves_places(self):
        sheet = (4, (), (("anna", 5, 1, 2),), ())
        self.assertEqual(still_open(ROOM, sheet, 1), [8, 4, 4, 8])
        self.assertEqual(still_open(ROOM, sheet, 2), [4, 4, 4])
        self.assertEqual(earliest_of(ROOM, sheet, 5, 1, 0), 0)
        self.assertEqual(earliest_of(ROOM, sheet, 5, 1, 1), 3)
        self.assertEqual(earliest_of(ROOM, sheet, 4, 2, 1), 1)
        self.assertIsNone(earliest_of(ROOM, sheet, 5, 2, 0))
        self.check(ROOM, sheet)

    def test_those_that_are_booked_may_be_moved(self):
        room = (((("a", 2), ("b", 4)),), 4)
        sheet = (1, (), (("anna", 2, 0, 1),), ())
        self.assertEqual(greatest_of(room, sheet, 0, 1), 4)
        self.assertEqual(greatest_of(room, sheet[:3] + ((("anna", ("b",)),),), 0, 1), 2)

    def test_no_places_at_all(self):
        shuts = tuple((name, 1, 1) for name in "abcd")
        sheet = (3, shuts, (), ())
        self.assertEqual(still_open(ROOM, sheet, 1), [8, 0, 8])
        self.assertEqual(still_open(ROOM, sheet, 2), [0, 0])
        self.assertIsNone(earliest_of(ROOM, sheet, 1, 2, 0))
        self.check(ROOM, sheet)

    def test_sheets_without_a_dealing(self):
        for sheet in ((2, (), (("anna", 9, 0, 1),), ()), (2, (), (("anna", 5, 0, 1),), (("anna", ("a",)),))):
            self.assertIs(could_be(ROOM, sheet, 1, 1, 1), False)
            self.assertEqual(still_open(ROOM, sheet, 1), [0, 0])
            self.assertIsNone(earliest_of(ROOM, sheet, 1, 1, 0))

    def test_seven_and_eight_parties(self):
        seven = (2, (), parties_alike(7, 1, 0, 1), ())
        self.assertEqual(still_open(ALIKE, seven, 1), [1, 1])
        eight = (2, (), parties_alike(8, 1, 0, 1), ())
        self.assertIs(could_be(ALIKE, eight, 1, 1, 1), False)
        self.assertEqual(greatest_of(ALIKE, eight, 1, 1), 0)
        self.assertEqual(still_open(ALIKE, eight, 1), [0, 0])
        self.assertEqual(still_open(ALIKE, eight, 2), [0])
        self.assertIsNone(earliest_of(ALIKE, eight, 1, 1, 0))

    def test_late_begins(self):
        sheet = (5, (), (), ())
        for stay, begin, told in ((2, 3, 3), (2, 4, None), (2, 5, None), (5, 0, 0), (5, 1, None), (1, 4, 4),
                                  (1, 5, None), (1, 6, None), (1, 10 ** 60 - 1, None)):
            self.assertEqual(earliest_of(ROOM, sheet, 1, stay, begin), told)

    def test_names_that_a_program_might_give(self):
        for names in (list("abcdefg"), list("tuvwxyz"), ["ask", "guest", "name", "new", "one", "party", "x"],
                      ["aa", "ab", "aaa", "zz", "zzz", "zzzzzzzz", "aaaaaaaa"]):
            parties = tuple((name, 1, 0, 2) for name in sorted(names))
            self.assertIs(could_be(ALIKE, (2, (), parties, ()), 1, 0, 2), True)
            self.assertIs(could_be(ALIKE, (2, (("h", 1, 1),), parties, ()), 1, 0, 2), False)
            self.assertEqual(still_open(ALIKE, (2, (("h", 1, 1),), parties, ()), 1), [1, 0])

    def test_names_where_no_crowd_shows_it(self):
        # Those of five guests leave one table, so the others have no dealing; each two of them have one.
        room = (((("a", 4), ("b", 2), ("c", 4)),), 1)
        for name in list("abcdefghijklmnopqrstuvwxyz") + ["ask", "new", "x" * 8]:
            for parties in ((("zz", 5, 0, 1), (name, 2, 0, 1)), (("zz", 2, 0, 1), (name, 5, 0, 1))):
                both = (1, (), tuple(sorted(parties)), ())
                self.assertIs(could_be(room, both, 3, 0, 1), False, name)
                self.assertEqual(greatest_of(room, both, 0, 1), 0)
                self.assertIs(could_be(room, (1, (), parties[1:], ()), 3, 0, 1), True)

    def test_a_list_is_the_askers_own(self):
        told = still_open(ROOM, EMPTY, 1)
        told.append(5)
        told[0] = 0
        self.assertEqual(still_open(ROOM, EMPTY, 1), [8, 8, 8])

    def test_by_turns(self):
        sheets = [EMPTY, (3, (("d", 0, 3),), (), ()), (3, (), (("anna", 5, 0, 3),), ()),
                  (3, (), (("anna", 4, 0, 3),), ())]
        first = [(still_open(ROOM, sheet, 1), earliest_of(ROOM, sheet, 5, 1, 0)) for sheet in sheets]
        for step in range(3):
            again = [(still_open(ROOM, sheet, 1), earliest_of(ROOM, sheet, 5, 1, 0)) for sheet in sheets]
            self.assertEqual(again, first)
        self.assertEqual(first[1:], [([8] * 3, 0), ([4] * 3, None), ([8] * 3, 0)])

    def test_small_sheets(self):
        noughts, others = 0, set()
        cases = list(small_cases(60, 61, 3)) + list(small_cases(25, 62))
        for room, sheet, old in cases + [(room, sheet[:3] + ((),), old) for room, sheet, old in cases[:40]]:
            most = self.check(room, sheet)
            noughts += 0 in most.values()
            others |= set(most.values())
        self.assertGreater(noughts, 20)
        self.assertGreater(len(others), 8)

    def test_great_sheets(self):
        chance = random.Random(63)
        with Soon(self, 60):
            for many in (0, 3, 5, 6, 7, 8):
                room = great_room(chance)
                sheet = great_sheet(chance, room, 3, 3, many)
                sheet = sheet[:3] + (some_seats(chance, room, NAMES[:many], chance.choice((0, 0.1))),)
                self.check(room, sheet)

    def test_long_evenings_end_soon(self):
        chance = random.Random(64)
        with Soon(self, 60):
            for step in range(5):
                room = great_room(chance)
                sheet = great_sheet(chance, room, 12, 4, 7)
                for stay in range(1, 13):
                    self.assertEqual(len(still_open(room, sheet, stay)), 13 - stay)


if __name__ == "__main__":
    unittest.main()
