"""Points [20], [5] and [18], and [2] of seatword.dealing."""

import random
import unittest

from great import ALIKE, NAMES, Soon, great_room, great_sheet, parties_alike
from seatword.crowds import crowd_of
from seatword.dealing import dealing_of
from seatword.dealings import fault_of
from seatword.papers import bars
from small import dealings_of, has_dealing, is_plain, paper_bars, small_cases, some_seats, stands_open_to

# Stands and their places: a 4, b 4, c 2, d 4, a b 7, b c 5, a b c 8.
ROOM = (((("a", 4), ("b", 4), ("c", 2)), (("d", 4),)), 1)


class Checks(unittest.TestCase):
    def check(self, room, sheet, dealt=None):
        """What is told fits; where dealt is told, it is what is told."""
        told = dealing_of(room, sheet)
        self.assertEqual(dealing_of(room, sheet), told)
        self.assertTrue(is_plain(told), told)
        self.assertEqual(len(told), 2)
        if told[0] == "dealt":
            self.assertIsNone(fault_of(room, sheet, told[1]))
        else:
            self.assertEqual(told[0], "barred")
            self.assertIs(bars(room, sheet, (), None, told[1]), True)
            self.assertTrue(paper_bars(room, sheet, (), None, told[1]))
        if dealt is not None:
            self.assertEqual(told[0] == "dealt", dealt)
        return told


class Dealing(Checks):
    def test_no_parties(self):
        shuts = tuple((name, 0, 3) for name in "abcd")
        for sheet in ((1, (), (), ()), (12, (), (), ()), (3, shuts, (), ())):
            self.assertEqual(dealing_of(ROOM, sheet), ("dealt", ()))

    def test_one_party(self):
        for guests in (1, 2, 4, 5, 7, 8, 9, 60):
            told = self.check(ROOM, (3, (), (("anna", guests, 1, 2),), ()), guests <= 8)
            if guests == 8:
                self.assertEqual(told[1], (("anna", ("a", "b", "c")),))

    def test_all_tables_taken_and_one_more(self):
        for many in range(9):
            self.check(ROOM, (1, (), parties_alike(many, 1, 0, 1), ()), many <= 4)
            self.check(ALIKE, (12, (), parties_alike(many, 1, 0, 12), ()), True)
            self.check(ALIKE, (12, (("c", 11, 1),), parties_alike(many, 1, 0, 12), ()), many <= 7)

    def test_one_behind_the_other(self):
        parties = tuple((name, 8, at, 1) for at, name in enumerate(NAMES))
        told = self.check(ROOM, (8, (), parties, ()), True)
        self.assertEqual({stand for name, stand in told[1]}, {("a", "b", "c")})
        self.check(ROOM, (8, (), parties[:7] + (("hans", 8, 6, 1),), ()), False)

    def test_a_dealing_that_first_choices_miss(self):
        # Those of two guests must leave two tables side by side, at both hours.
        room = (((("a", 2), ("b", 2), ("c", 2), ("d", 2)),), 0)
        parties = (("anna", 4, 0, 1), ("bob", 4, 1, 1), ("carl", 2, 0, 2), ("dora", 2, 0, 2))
        self.check(room, (2, (), parties, ()), True)
        self.check(room, (2, (), parties + (("emil", 1, 1, 1),), ()), False)

    def test_seats_that_are_open(self):
        parties = (("anna", 4, 0, 2), ("bob", 5, 0, 2), ("carl", 2, 1, 1))
        told = self.check(ROOM, (2, (), parties, (("anna", ("a",)),)), True)
        self.assertEqual(told[1][:2], (("anna", ("a",)), ("bob", ("b", "c"))))
        self.check(ROOM, (2, (), parties, (("anna", ("b",)),)), False)
        seats = (("anna", ("d",)), ("bob", ("a", "b")), ("carl", ("c",)))
        self.assertEqual(self.check(ROOM, (2, (), parties, seats)), ("dealt", seats))

    def test_seats_that_are_not(self):
        few = (2, (), (("anna", 5, 0, 2),), (("anna", ("a",)),))
        self.assertEqual(self.check(ROOM, few), ("barred", ("seat", "anna")))
        shut = (2, (("d", 1, 1),), (("anna", 4, 0, 2), ("bob", 1, 0, 1)), (("anna", ("d",)),))
        self.assertEqual(self.check(ROOM, shut), ("barred", ("seat", "anna")))
        self.check(ROOM, shut[:1] + ((("d", 1, 1),), (("anna", 4, 0, 1), ("bob", 1, 0, 1)), (("anna", ("d",)),)), True)

    def test_seats_that_meet(self):
        seats = (("anna", ("a", "b")), ("bob", ("b",)))
        self.check(ROOM, (2, (), (("anna", 4, 0, 2), ("bob", 4, 1, 1)), seats), False)
        self.check(ROOM, (2, (), (("anna", 4, 0, 1), ("bob", 4, 1, 1)), seats), True)
        self.check(ROOM, (2, (), (("anna", 4, 0, 2), ("bob", 4, 1, 1), ("carl", 1, 0, 1)), seats), False)

    def test_barred_without_a_crowd(self):
        sheet = (2, (("a", 0, 1), ("b", 1, 1), ("d", 0, 2)), (("anna", 3, 0, 2),), ())
        self.assertIsNone(crowd_of(ROOM, sheet))
        self.assertEqual(self.check(ROOM, sheet), ("barred", ("cases", "anna", ())))

    def test_parties_that_do_not_matter_are_not_in_the_paper(self):
        # Anna, bob and carl have no dealing at hour 3; at other hours are some that have fewer stands.
        room = (((("a", 4), ("b", 2), ("c", 4)),), 1)
        core = (("anna", 5, 3, 1), ("bob", 2, 3, 1), ("carl", 3, 3, 1))
        others = tuple((name, 5, hour, 1) for hour, name in enumerate(("aaa", "aab", "aac")))
        told = self.check(room, (4, (), core, ()), False)
        self.assertEqual(told[1][0], "cases")
        self.assertEqual(dealing_of(room, (4, (), others + core, ())), told)

    def test_by_turns(self):
        parties = (("anna", 4, 0, 2), ("bob", 5, 0, 2), ("carl", 4, 1, 1))
        sheets = [(2, (), parties, ()), (2, (("d", 1, 1),), parties, ()), (2, (), parties[1:], ()),
                  (2, (), parties, (("anna", ("b",)),)), (2, (), parties[:2] + (("carl", 5, 1, 1),), ())]
        first = [dealing_of(ROOM, sheet) for sheet in sheets]
        self.assertEqual([told[0] for told in first], ["dealt", "barred", "dealt", "barred", "barred"])
        for step in range(3):
            for sheet, told in zip(sheets, first):
                self.assertEqual(dealing_of(ROOM, sheet), told)
            self.assertEqual([dealing_of(ROOM, sheet) for sheet in sheets[::-1]], first[::-1])
        other = (ROOM[0], 0)
        self.check(other, sheets[0], True)
        self.assertEqual(dealing_of(ROOM, sheets[0]), first[0])


class Separately(Checks):
    def test_small_sheets(self):
        told = {"dealt": 0, "barred": 0, "without a crowd": 0}
        for room, sheet, old in small_cases(900, 41):
            every = list(dealings_of(room, sheet))
            word, thing = self.check(room, sheet, bool(every))
            told[word] += 1
            if word == "dealt":
                self.assertIn(thing, every)
            elif crowd_of(room, sheet) is None:
                told["without a crowd"] += 1
        self.assertTrue(all(many > 30 for many in told.values()), told)

    def test_small_sheets_with_seats(self):
        chance = random.Random(42)
        told = []
        for room, sheet, old in small_cases(400, 43):
            names = [party[0] for party in sheet[2]]
            opens = [(name, stands_open_to(room, sheet[:3] + ((),), name)) for name in names]
            seats = tuple((name, chance.choice(stands)) for name, stands in opens if stands and chance.random() < 0.5)
            for some in (seats, some_seats(chance, room, names, 0.5)):
                with_seats = sheet[:3] + (some,)
                told.append(has_dealing(room, with_seats, (), None))
                self.check(room, with_seats, told[-1])
        self.assertGreater(told.count(True), 100)
        self.assertGreater(told.count(False), 100)


class Great(Checks):
    def test_great_sheets_end_soon(self):
        chance = random.Random(44)
        words = []
        with Soon(self, 60):
            for hours, most in ((1, 2), (2, 4), (4, 5), (8, 6), (12, 8)):
                for step in range(40):
                    room = great_room(chance)
                    words.append(self.check(room, great_sheet(chance, room, hours, most))[0])
        self.assertGreater(words.count("dealt"), 30)
        self.assertGreater(words.count("barred"), 30)

    def test_one_party_too_many_at_an_hour(self):
        # Seven of the eight tables for eight parties at hour 5, and all of them at the others.
        pairs = (tuple((name, 2) for name in "abcd"), tuple((name, 2) for name in "efgh"))
        for room in (ALIKE, (pairs, 0), (pairs, 1)):
            parties = parties_alike(8, 1, 0, 12)
            with Soon(self, 20):
                self.check(room, (12, (), parties, ()), True)
                self.check(room, (12, (("d", 5, 1),), parties, ()), False)
                self.check(room, (12, (("d", 5, 1),), parties[:7] + (("hans", 1, 6, 6),), ()), True)

    def test_parties_of_two_sorts(self):
        # Three parties take two tables each, and leave two of the eight.
        rows = (tuple((name, 2) for name in "abcd"), tuple((name, 2) for name in "efgh"))
        big = parties_alike(3, 4, 0, 3)
        for many in range(6):
            small = tuple((name, 2, 1, 1) for name in NAMES[3:3 + many])
            with Soon(self, 20):
                self.check((rows, 0), (3, (), big + small, ()), many <= 2)

    def test_hard_ones_that_crowds_do_not_show(self):
        # Found by looking for sheets for which the search has to go through many cases.
        rows = ((("a", 2), ("b", 4), ("c", 1), ("d", 2)), (("e", 3), ("f", 3), ("g", 8), ("h", 1)))
        parties = (("anna", 4, 2, 1), ("bob", 5, 1, 1), ("carl", 3, 0, 2), ("dora", 1, 1, 2), ("emil", 4, 2, 2),
                   ("finn", 4, 2, 1), ("gerd", 3, 2, 1), ("hans", 1, 2, 2))
        with Soon(self, 60):
            told = dealing_of((rows, 1), (4, (), parties, ()))
            self.assertEqual(told[0], "barred")
            self.assertTrue(bars((rows, 1), (4, (), parties, ()), (), None, told[1]))


if __name__ == "__main__":
    unittest.main()
