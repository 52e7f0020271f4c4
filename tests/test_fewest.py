"""Points [21] and [4], and [2] of seatword.fewest."""

import random
import unittest

from great import ALIKE, NAMES, Soon, great_room, great_sheet, parties_alike
from seatword.dealing import dealing_of
from seatword.dealings import fault_of, moved_names
from seatword.fewest import fewest_moved
from seatword.papers import bars
from seatword.sheets import without_party
from small import (dealings_of, fewest_in, is_plain, moves_in, paper_bars, small_cases, some_seats, some_span,
                   stands_open_to)

# Stands and their places: a 4, b 4, c 2, d 4, a b 7, b c 5, a b c 8.
ROOM = (((("a", 4), ("b", 4), ("c", 2)), (("d", 4),)), 1)
PARTIES = (("anna", 4, 0, 2), ("bob", 5, 0, 2), ("carl", 4, 1, 2))
SHEET = (3, (), PARTIES, ())
OLD = (("anna", ("a",)), ("bob", ("b", "c")), ("carl", ("d",)))


class Checks(unittest.TestCase):
    def check(self, room, sheet, old, many="any"):
        """What is told fits; where many is told, so many are moved, None where all is barred."""
        told = fewest_moved(room, sheet, old)
        self.assertEqual(fewest_moved(room, sheet, old), told)
        if told[0] == "barred":
            self.assertEqual(len(told), 2)
            self.check_paper(room, sheet, (), None, told[1])
            self.assertIn(many, ("any", None))
            return told
        self.assertEqual((told[0], len(told)), ("dealt", 4))
        self.assertTrue(is_plain(told[:3]), told)
        self.assertIsNone(fault_of(room, sheet, told[2]))
        self.assertEqual(len(moved_names(old, told[2])), told[1])
        self.assertEqual(moves_in(sheet, old, told[2]), told[1])
        if told[1] == 0:
            self.assertIsNone(told[3])
        else:
            self.check_paper(room, sheet, old, told[1] - 1, told[3])
        self.assertIn(many, ("any", told[1]))
        return told

    def check_paper(self, room, sheet, old, spare, paper):
        self.assertTrue(is_plain(paper), paper)
        self.assertIs(bars(room, sheet, old, spare, paper), True, (sheet, old, spare, paper))
        self.assertTrue(paper_bars(room, sheet, old, spare, paper), (sheet, old, spare, paper))


class Fewest(Checks):
    def test_no_parties(self):
        for old in ((), OLD):
            self.assertEqual(fewest_moved(ROOM, (3, (), (), ()), old), ("dealt", 0, (), None))

    def test_old_seats_that_are_a_dealing(self):
        self.assertEqual(self.check(ROOM, SHEET, OLD), ("dealt", 0, OLD, None))
        for old in dealings_of(ROOM, SHEET):
            self.assertEqual(self.check(ROOM, SHEET, old), ("dealt", 0, old, None))

    def test_old_seats_of_nobody_and_of_strangers(self):
        self.check(ROOM, SHEET, (), 0)
        strangers = (("aaa", ("a",)), ("zoe", ("b", "c")))
        told = self.check(ROOM, SHEET, strangers, 0)
        self.assertEqual([name for name, stand in told[2]], ["anna", "bob", "carl"])

    def test_old_seats_of_some(self):
        self.assertEqual(self.check(ROOM, SHEET, (("anna", ("d",)),), 0)[2][0], ("anna", ("d",)))
        self.check(ROOM, SHEET, (("bob", ("a", "b")),), 1)
        self.check(ROOM, SHEET, (("anna", ("a",)), ("bob", ("a", "b"))), 1)
        self.check(ROOM, SHEET, (("anna", ("a",)), ("bob", ("a", "b")), ("carl", ("a",))), 2)
        self.check(ROOM, SHEET, (("carl", ("c",)),), 1)

    def test_a_shut_more(self):
        self.check(ROOM, (3, (("d", 0, 1),), PARTIES, ()), OLD, 0)
        told = self.check(ROOM, (3, (("d", 2, 1),), PARTIES, ()), OLD, 2)
        self.assertEqual(told[2], (("anna", ("d",)), ("bob", ("b", "c")), ("carl", ("a",))))
        self.check(ROOM, (3, (("d", 1, 1),), PARTIES, ()), OLD, None)
        self.check(ROOM, (3, (("c", 1, 1),), PARTIES, ()), OLD, None)
        few = (3, (("a", 1, 1),), PARTIES[:2], ())
        told = self.check(ROOM, few, OLD[:2], 1)
        self.assertEqual(told[2], (("anna", ("d",)), ("bob", ("b", "c"))))

    def test_a_party_more(self):
        more = PARTIES + (("dora", 4, 2, 1),)
        self.check(ROOM, (3, (), more, ()), OLD, 0)
        self.check(ROOM, (3, (), more[:2] + (("carl", 4, 1, 2), ("dora", 4, 1, 1)), ()), OLD, None)
        # Anna at b has to leave it to those five that are new.
        sheet = (1, (), (("anna", 4, 0, 1), ("bob", 5, 0, 1)), ())
        told = self.check(ROOM, sheet, (("anna", ("b",)),), 1)
        self.assertEqual(moved_names((("anna", ("b",)),), told[2]), ["anna"])
        self.check(ROOM, sheet, (("anna", ("d",)),), 0)

    def test_more_guests_and_a_longer_stay(self):
        self.check(ROOM, (3, (), (("anna", 4, 0, 2), ("bob", 6, 0, 2), ("carl", 4, 1, 1)), ()), OLD, None)
        self.check(ROOM, (3, (), (("anna", 5, 0, 2), ("carl", 4, 1, 1)), ()), OLD, 1)
        sheet = (3, (), (("anna", 4, 0, 1), ("bob", 4, 1, 1)), ())
        old = (("anna", ("a",)), ("bob", ("a",)))
        self.check(ROOM, sheet, old, 0)
        longer = (3, (), (("anna", 4, 0, 2), ("bob", 4, 1, 1)), ())
        self.check(ROOM, longer, old, 1)

    def test_a_party_gone(self):
        for name in ("anna", "bob", "carl"):
            told = self.check(ROOM, without_party(SHEET, name), OLD, 0)
            self.assertEqual(told[2], tuple(seat for seat in OLD if seat[0] != name))

    def test_seats(self):
        for seats in (OLD[:1], OLD[1:2], OLD[:2], OLD):
            told = self.check(ROOM, SHEET[:3] + (seats,), OLD, 0)
            self.assertEqual(told[2], OLD)
        # Who sits need have no stand in old.
        told = self.check(ROOM, SHEET[:3] + ((("anna", ("d",)),),), OLD[1:], 1)
        self.assertEqual(told[2][0], ("anna", ("d",)))
        self.check(ROOM, SHEET[:3] + ((("anna", ("c",)),),), (("anna", ("c",)),), None)

    def test_all_must_be_moved(self):
        rows = (tuple((name, 2) for name in "abcd"), tuple((name, 2) for name in "efgh"))
        parties = parties_alike(4, 3, 0, 1)
        old = tuple((name, (table,)) for name, table in zip(NAMES, "aceg"))
        told = self.check((rows, 1), (1, (), parties, ()), old, 4)
        self.assertEqual(told[3], ("moves", tuple(NAMES[:4])))
        old = tuple((name, ("a", "b")) for name in NAMES[:4])
        self.check((rows, 1), (1, (), parties, ()), old, 3)

    def test_by_turns(self):
        asked = [(SHEET, OLD), (SHEET, OLD[:1]), (SHEET, (("anna", ("a",)), ("bob", ("a", "b")))),
                 (without_party(SHEET, "bob"), OLD), ((3, (("d", 2, 1),), PARTIES, ()), OLD), (SHEET, ())]
        first = [fewest_moved(ROOM, sheet, old) for sheet, old in asked]
        for step in range(3):
            self.assertEqual([fewest_moved(ROOM, sheet, old) for sheet, old in asked], first)
            back = [fewest_moved(ROOM, sheet, old) for sheet, old in asked[::-1]]
            self.assertEqual(back, first[::-1])


class Separately(Checks):
    def test_small_sheets(self):
        told = {}
        bare = [(room, sheet[:3] + ((),), old) for room, sheet, old in small_cases(1200, 50, 2)]
        for room, sheet, old in list(small_cases(300, 51)) + bare:
            seats = dict(sheet[3])
            kept = tuple((name, seats.get(name, stand)) for name, stand in old)
            many = fewest_in(room, sheet, kept)
            self.check(room, sheet, kept, many)
            told[many] = told.get(many, 0) + 1
        self.assertTrue(all(told[many] > 20 for many in (None, 0, 1, 2)), told)
        self.assertIn(3, told)

    def test_old_dealings_of_small_sheets_with_one_thing_otherwise(self):
        chance = random.Random(52)
        told = {}
        for room, sheet, unused in small_cases(300, 53):
            old = next(dealings_of(room, sheet), None)
            if old is None:
                continue
            for other in self.otherwise(chance, room, sheet):
                seats = dict(other[3])
                many = fewest_in(room, other, old)
                self.check(room, other, old, many)
                told[many] = told.get(many, 0) + 1
                self.assertTrue(all(dict(old)[name] == seats[name] for name in seats))
        self.assertTrue(all(told[many] > 20 for many in (None, 0, 1)) and 2 in told, told)

    def otherwise(self, chance, room, sheet):
        hours, shuts, parties, seats = sheet
        table = chance.choice(chance.choice(room[0]))[0]
        yield sheet
        yield (hours, shuts + ((table,) + some_span(chance, hours),), parties, seats)
        yield (hours, shuts, parties + (("emil", chance.randint(1, 5)) + some_span(chance, hours),), seats)
        name, guests, begin, stay = parties[0]
        yield (hours, shuts, ((name, guests + chance.randint(1, 3), begin, stay),) + parties[1:], seats)
        yield (hours + 1, shuts, ((name, guests, begin, stay + 1),) + parties[1:], seats)
        yield without_party(sheet, name)

    def test_who_sits_has_its_stand_in_old_or_none(self):
        chance = random.Random(54)
        for room, sheet, old in small_cases(300, 55):
            bare = sheet[:3] + ((),)
            opens = [(party[0], stands_open_to(room, bare, party[0])) for party in sheet[2]]
            seats = tuple((name, chance.choice(stands)) for name, stands in opens if stands and chance.random() < 0.4)
            before = {**dict(old), **dict(seats)}
            for name, stand in seats:
                if chance.random() < 0.5:
                    del before[name]
            kept = tuple(sorted(before.items()))
            self.check(room, sheet[:3] + (seats,), kept, fewest_in(room, sheet[:3] + (seats,), kept))


class Great(Checks):
    def test_one_party_more(self):
        chance = random.Random(56)
        told = {}
        with Soon(self, 60):
            for hours, most in ((1, 2), (1, 5), (3, 3), (6, 5), (12, 6)):
                for step in range(25):
                    room = great_room(chance)
                    sheet = great_sheet(chance, room, hours, most)
                    ahead = dealing_of(room, without_party(sheet, "dora"))
                    if ahead[0] == "dealt":
                        answer = self.check(room, sheet, ahead[1])
                        many = answer[1] if answer[0] == "dealt" else None
                        told[many] = told.get(many, 0) + 1
        self.assertTrue(all(many in told for many in (None, 0, 1)), told)

    def test_old_seats_of_another_sheet(self):
        chance = random.Random(57)
        told = {}
        with Soon(self, 120):
            for hours, most in ((1, 2), (2, 3), (4, 5), (12, 6)):
                for step in range(15):
                    room = great_room(chance)
                    sheet = great_sheet(chance, room, hours, most)
                    ahead = dealing_of(room, great_sheet(chance, room, hours, most))
                    if ahead[0] == "dealt":
                        answer = self.check(room, sheet, ahead[1])
                        many = answer[1] if answer[0] == "dealt" else None
                        told[many] = told.get(many, 0) + 1
        self.assertTrue(all(many in told for many in (None, 0, 1, 2, 3, 4)), told)

    def test_any_old_seats(self):
        chance = random.Random(58)
        with Soon(self, 120):
            for hours, most in ((1, 3), (12, 5)):
                for step in range(6):
                    room = great_room(chance)
                    sheet = great_sheet(chance, room, hours, most)
                    told = fewest_moved(room, sheet, some_seats(chance, room, NAMES, 0.8))
                    self.assertIn(told[0], ("dealt", "barred"))

    def test_one_two_and_many_of_eight(self):
        parties = parties_alike(7, 1, 0, 12)
        old = tuple((name, (table,)) for name, table in zip(NAMES, "abcdefg"))
        room = ((tuple((name, 1) for name in "abcdef"), (("g", 1), ("h", 1))), 0)
        for shuts, many in (((), 0), ((("d", 5, 1),), 1), ((("h", 5, 1),), 0), ((("d", 5, 1), ("h", 7, 1)), None)):
            with Soon(self, 20):
                self.check(ALIKE, (12, shuts, parties, ()), old, many)
                self.check(room, (12, shuts, parties, ()), old, many)
        # A pair is wanted where each pair has two that sit at single tables.
        for guests, many in ((1, 0), (2, 1)):
            new = (12, (), parties[:6] + (("gerd", guests, 0, 12),), ())
            with Soon(self, 20):
                self.check(room, new, old[:6], 0)
                apart = tuple((name, (table,)) for name, table in zip(NAMES, "abcdeg"))
                self.check(room, new, apart, many)


if __name__ == "__main__":
    unittest.main()
