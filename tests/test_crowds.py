"""Points [19] and [5], and [2] of seatword.crowds."""

import random
import unittest

from great import ALIKE, NAMES, Soon, great_room, great_sheet, parties_alike
from seatword.crowds import crowd_of
from seatword.dealings import fault_of
from seatword.papers import bars
from small import has_crowd, has_dealing, is_plain, paper_bars, small_cases, some_seats

# Stands and their places: a 4, b 4, c 2, d 4, a b 7, b c 5, a b c 8.
ROOM = (((("a", 4), ("b", 4), ("c", 2)), (("d", 4),)), 1)
FOUR_ROWS = (((("a", 2),), (("b", 3), ("c", 1)), (("d", 4),), (("e", 2), ("f", 2), ("g", 2), ("h", 2))), 0)
ONE_TABLE = (((("a", 4),),), 0)


def sheet_of(parties, shuts=(), seats=(), hours=3):
    return (hours, shuts, tuple(parties), seats)


class Checks(unittest.TestCase):
    def check(self, room, sheet, there):
        told = crowd_of(room, sheet)
        self.assertEqual(crowd_of(room, sheet), told)
        if not there:
            self.assertIsNone(told)
            return None
        self.assertEqual(told[0], "crowd")
        self.assertTrue(is_plain(told), told)
        self.assertIs(bars(room, sheet, (), None, told), True, told)
        self.assertTrue(paper_bars(room, sheet, (), None, told), told)
        return told


class Crowds(Checks):
    def test_one_party_more_than_tables(self):
        for guests, most in ((1, 4), (2, 4), (3, 3), (4, 3), (5, 1), (7, 1), (8, 1)):
            for many in range(9):
                sheet = sheet_of(parties_alike(many, guests, 0, 3))
                self.check(ROOM, sheet, many > most)

    def test_a_crowd_at_one_hour_alone(self):
        parties = [("anna", 5, 0, 2), ("bob", 5, 1, 2)]
        told = self.check(ROOM, sheet_of(parties), True)
        self.assertEqual(told, ("crowd", 1, 5, ("b",)))
        self.check(ROOM, sheet_of([("anna", 5, 0, 1), ("bob", 5, 1, 2)]), False)
        self.check(ROOM, sheet_of([("anna", 5, 2, 1), ("bob", 5, 0, 2)]), False)

    def test_a_crowd_of_one_number_of_guests_alone(self):
        parties = [("anna", 1, 0, 3), ("bob", 5, 0, 3), ("carl", 8, 0, 3)]
        told = self.check(ROOM, sheet_of(parties), True)
        self.assertEqual(told[2], 5)
        self.check(ROOM, sheet_of(parties[:2]), False)
        self.check(ROOM, sheet_of([parties[0], ("bob", 4, 0, 3), parties[2]]), False)

    def test_those_with_more_guests_count(self):
        parties = [("anna", 3, 0, 1), ("bob", 3, 0, 1), ("carl", 4, 0, 1), ("dora", 8, 0, 1)]
        told = self.check(ROOM, sheet_of(parties), True)
        self.assertEqual((told[2], told[3]), (3, ("a", "b", "d")))

    def test_pushed_tables_count(self):
        # Of two pairs that share no table two tables are wanted, of three stands in one another one.
        room = ((tuple((name, 2) for name in "abcd"),), 0)
        for guests, most in ((3, 2), (4, 2), (5, 1), (6, 1), (7, 0)):
            for many in range(4):
                self.check(room, sheet_of(parties_alike(many, guests, 0, 1)), many > most)
        told = self.check(room, sheet_of(parties_alike(3, 4, 0, 1)), True)
        self.assertEqual(len(told[3]), 2)

    def test_only_where_tables_are_shut(self):
        parties = parties_alike(1, 5, 0, 3)
        self.check(ROOM, sheet_of(parties), False)
        for shut in (("b", 0, 1), ("b", 2, 1), ("b", 0, 3)):
            told = self.check(ROOM, sheet_of(parties, (shut,)), True)
            self.assertEqual(told[1:], (shut[1], 5, ()))
        self.check(ROOM, sheet_of(parties, (("a", 0, 3), ("d", 0, 3))), False)
        self.check(ROOM, sheet_of(parties_alike(1, 5, 1, 1), (("b", 0, 1), ("b", 2, 1))), False)

    def test_only_where_tables_are_sat_at(self):
        for begin, stay, there in ((0, 1, False), (1, 1, True), (1, 2, True), (2, 1, False)):
            parties = [("anna", 5, 1, 1), ("bob", 1, begin, stay)]
            self.check(ROOM, sheet_of(parties), False)
            self.check(ROOM, sheet_of(parties, (), (("bob", ("b",)),)), there)

    def test_those_that_sit_are_not_counted(self):
        parties = parties_alike(4, 4, 0, 3)
        self.check(ROOM, sheet_of(parties), True)
        self.check(ROOM, sheet_of(parties, (), (("anna", ("c",)),)), False)
        self.check(ROOM, sheet_of(parties, (), (("anna", ("a",)),)), True)
        everyone = tuple((name, ("a",)) for name in NAMES[:4])
        self.check(ROOM, sheet_of(parties, (), everyone), False)

    def test_no_tables_at_all(self):
        for guests, there in ((8, False), (9, True), (60, True)):
            told = self.check(ROOM, sheet_of(parties_alike(1, guests, 1, 1)), there)
            self.assertTrue(told is None or told == ("crowd", 1, guests, ()))
        shuts = tuple((name, 2, 1) for name in "abcd")
        told = self.check(ROOM, sheet_of(parties_alike(1, 1, 0, 3), shuts), True)
        self.assertEqual(told, ("crowd", 2, 1, ()))

    def test_none_although_there_is_no_dealing(self):
        # At each hour a table is free, but none for all hours.
        sheet = (2, (("a", 0, 1), ("b", 1, 1)), (("anna", 4, 0, 2),), ())
        room = (((("a", 4), ("b", 4)),), 4)
        self.assertFalse(has_dealing(room, sheet, (), None))
        self.check(room, sheet, False)
        # Five guests take table b and one of its neighbours; the other one is too few for the two others.
        room = (((("a", 4), ("b", 2), ("c", 4)),), 1)
        sheet = (1, (), (("anna", 5, 0, 1), ("bob", 2, 0, 1), ("carl", 3, 0, 1)), ())
        self.assertFalse(has_dealing(room, sheet, (), None))
        self.check(room, sheet, False)
        # A wrong seat bars, and is no crowd.
        sheet = (1, (), (("anna", 9, 0, 1),), (("anna", ("a",)),))
        self.check(room, sheet, False)

    def test_none_where_there_is_a_dealing(self):
        sheet = sheet_of([("anna", 5, 0, 2), ("bob", 4, 0, 3), ("carl", 7, 2, 1)])
        self.assertIsNone(fault_of(ROOM, sheet, (("anna", ("b", "c")), ("bob", ("d",)), ("carl", ("a", "b")))))
        self.check(ROOM, sheet, False)

    def test_no_parties_and_one_table(self):
        for hours in (1, 12):
            for room in (ROOM, FOUR_ROWS, ONE_TABLE, ALIKE):
                shuts = tuple((table[0], 0, hours) for row in room[0] for table in row)
                self.check(room, sheet_of((), shuts, (), hours), False)
            for many, guests, there in ((1, 4, False), (2, 4, True), (1, 5, True), (8, 1, True)):
                sheet = sheet_of(parties_alike(many, guests, hours - 1, 1), (), (), hours)
                self.check(ONE_TABLE, sheet, there)

    def test_four_rows_and_eight_tables(self):
        for guests, most in ((1, 8), (2, 7), (3, 4), (4, 4), (5, 1), (6, 1), (7, 0)):
            for many in (most, most + 1):
                sheet = sheet_of(parties_alike(many, guests, 11, 1), (), (), 12)
                if many <= 8:
                    told = self.check(FOUR_ROWS, sheet, many > most)
                    self.assertTrue(told is None or told[1] == 11)
        self.check(ALIKE, sheet_of(parties_alike(8, 1, 0, 12), (), (), 12), False)
        self.check(ALIKE, sheet_of(parties_alike(8, 1, 0, 12), (("h", 5, 1),), (), 12), True)


class Separately(Checks):
    def test_small_sheets(self):
        told = []
        for room, sheet, old in small_cases(500, 31):
            there = has_crowd(room, sheet)
            self.check(room, sheet, there)
            told.append(there)
        self.assertGreater(told.count(True), 100)
        self.assertGreater(told.count(False), 100)

    def test_great_sheets(self):
        chance = random.Random(32)
        told = []
        for hours, most in ((1, 3), (2, 4), (3, 6), (12, 3)):
            for step in range(5):
                room = great_room(chance)
                sheet = great_sheet(chance, room, hours, most)
                sheet = sheet[:3] + (some_seats(chance, room, NAMES, chance.choice((0, 0, 0.3))),)
                there = has_crowd(room, sheet)
                self.check(room, sheet, there)
                told.append(there)
        self.assertGreater(told.count(True), 3)
        self.assertGreater(told.count(False), 3)

    def test_none_has_a_dealing_where_one_is_told(self):
        for room, sheet, old in small_cases(200, 33):
            if crowd_of(room, sheet) is not None:
                self.assertFalse(has_dealing(room, sheet, (), None))

    def test_it_ends_soon(self):
        chance = random.Random(34)
        with Soon(self, 30):
            for step in range(300):
                room = great_room(chance)
                crowd_of(room, great_sheet(chance, room, 12, 5))


if __name__ == "__main__":
    unittest.main()
