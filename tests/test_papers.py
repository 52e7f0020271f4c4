"""Points [17] and [18], and [2] of seatword.papers."""

import itertools
import unittest

from seatword.papers import bars
from small import (case_paper, crowd_bars, dealings_of, has_dealing, moves_in, open_to, seated, small_cases,
                   stands_open_to, subsets, without_seat)
from things import ANYTHING, NEVER, at_way, cut_or_grown, put, spoilt, ways_into

# Stands and their places: a 4, b 4, c 2, d 4, a b 7, b c 5, a b c 8.
ROOM = (((("a", 4), ("b", 4), ("c", 2)), (("d", 4),)), 1)
# Stands and their places: a 4, b 4, a b 8.
PAIR = (((("a", 4), ("b", 4)),), 0)
NAMES = ["anna", "bob", "carl", "dora", "emil", "finn", "gerd", "hans"]
A, B, AB = ("a",), ("b",), ("a", "b")
SPARES = (None, 0, 1, 2, 3)


def sheet_of(many, guests, begin=0, stay=3, shuts=(), seats=()):
    """A sheet of three hours with so many parties alike."""
    return (3, shuts, tuple((name, guests, begin, stay) for name in NAMES[:many]), seats)


class Checks(unittest.TestCase):
    def check(self, room, sheet, paper, fits, old=(), spare=None):
        self.assertIs(bars(room, sheet, old, spare, paper), fits, paper)


class Crowd(Checks):
    def test_one_party_more_than_tables(self):
        for guests, tables in ((5, ("b",)), (7, ("b",)), (8, ("a",)), (8, ("c",)), (4, ("a", "b", "d")),
                               (1, ("a", "b", "c", "d")), (9, ()), (60, ())):
            many = len(tables)
            self.check(ROOM, sheet_of(many + 1, guests), ("crowd", 0, guests, tables), True)
            self.check(ROOM, sheet_of(many + 2, guests), ("crowd", 0, guests, tables), True)
            self.check(ROOM, sheet_of(many, guests), ("crowd", 0, guests, tables), False)

    def test_the_spare_and_old_do_not_matter(self):
        old = (("anna", ("a", "b")), ("bob", ("b", "c")))
        for spare in SPARES:
            self.check(ROOM, sheet_of(2, 5), ("crowd", 0, 5, ("b",)), True, old, spare)
            self.check(ROOM, sheet_of(1, 5), ("crowd", 0, 5, ("b",)), False, old, spare)

    def test_hours(self):
        for hour, fits in ((-1, False), (0, True), (1, True), (2, True), (3, False), (True, False), (False, False),
                           (10 ** 59, False), ("0", False), (None, False), ((0,), False), ([], False)):
            self.check(ROOM, sheet_of(2, 5), ("crowd", hour, 5, ("b",)), fits)

    def test_parties_that_are_not_there_at_the_hour(self):
        for hour, fits in ((0, False), (1, True), (2, False)):
            self.check(ROOM, sheet_of(2, 5, 1, 1), ("crowd", hour, 5, ("b",)), fits)
        apart = (3, (), (("anna", 5, 0, 2), ("bob", 5, 1, 2)), ())
        for hour, fits in ((0, False), (1, True), (2, False)):
            self.check(ROOM, apart, ("crowd", hour, 5, ("b",)), fits)

    def test_guests(self):
        for guests, fits in ((0, False), (1, True), (2, True), (-1, False), (True, False), (61, False), ("4", False),
                             (None, False), (10 ** 59, False)):
            self.check(ROOM, sheet_of(5, 2), ("crowd", 0, guests, ("a", "b", "c", "d")), fits)
        for guests, fits in ((8, False), (9, True), (60, True), (61, False)):
            self.check(ROOM, sheet_of(1, 60), ("crowd", 0, guests, ()), fits)

    def test_parties_of_fewer_guests(self):
        sheet = (3, (), (("anna", 4, 0, 3), ("bob", 5, 0, 3)), ())
        self.check(ROOM, sheet, ("crowd", 0, 5, ("b",)), False)
        self.check(ROOM, sheet, ("crowd", 0, 4, ("b",)), False)
        sheet = (3, (), (("anna", 6, 0, 3), ("bob", 5, 0, 3)), ())
        self.check(ROOM, sheet, ("crowd", 0, 5, ("b",)), True)
        self.check(ROOM, sheet, ("crowd", 0, 6, ("b",)), False)

    def test_tables_miss_a_stand(self):
        self.check(ROOM, sheet_of(4, 4), ("crowd", 0, 4, ("a", "b", "d")), True)
        for tables in (("a", "b"), ("a", "d"), ("b", "d"), ("a", "b", "c"), ("a", "c", "d"), ()):
            self.check(ROOM, sheet_of(8, 4), ("crowd", 0, 4, tables), False)

    def test_tables_that_are_none(self):
        many = sheet_of(8, 4)
        for tables in (("a", "b", "d"), ("a", "b", "c", "d")):
            self.check(ROOM, many, ("crowd", 0, 4, tables), True)
        for tables in (("b", "a", "d"), ("d", "b", "a"), ("a", "d", "b"), ("a", "b", "b", "d"), ("a", "a", "b", "d"),
                       ("a", "b", "d", "z"), ("a", "b", "d", ""), ("a", "b", "d", None), (1, "a", "b", "d"),
                       ("a", "b", "d", "d"), ["a", "b", "d"], "abd", {"a": 1, "b": 1, "d": 1}, None, 3,
                       (("a",), ("b",), ("d",)), (("a", "b", "d"),), ("A", "a", "b", "d"), ("a", "b", "d", [])):
            self.check(ROOM, many, ("crowd", 0, 4, tables), False)

    def test_parties_with_seats_are_not_counted(self):
        sheet = sheet_of(2, 5, 0, 3, (), (("bob", ("d",)),))
        self.check(ROOM, sheet, ("crowd", 0, 5, ("b",)), False)
        sheet = sheet_of(3, 5, 0, 3, (), (("bob", ("d",)),))
        self.check(ROOM, sheet, ("crowd", 0, 5, ("b",)), True)

    def test_shuts_at_this_hour_and_at_others(self):
        for shut, hours in ((("b", 0, 1), [0]), (("b", 1, 2), [1, 2]), (("b", 0, 3), [0, 1, 2]), (("a", 0, 3), []),
                            (("d", 0, 3), [])):
            for hour in range(3):
                self.check(ROOM, sheet_of(1, 5, 0, 3, (shut,)), ("crowd", hour, 5, ()), hour in hours)

    def test_seats_at_this_hour_and_at_others(self):
        for begin, stay, hours in ((0, 1, [0]), (1, 1, [1]), (1, 2, [1, 2]), (0, 3, [0, 1, 2])):
            sheet = (3, (), (("anna", 5, 0, 3), ("bob", 1, begin, stay)), (("bob", ("b",)),))
            for hour in range(3):
                self.check(ROOM, sheet, ("crowd", hour, 5, ()), hour in hours)

    def test_each_crowd_of_small_sheets(self):
        found = 0
        for room, sheet, old in small_cases(60, 17):
            tables = [table[0] for row in room[0] for table in row]
            for hour, guests in itertools.product(range(sheet[0]), range(1, 9)):
                for some in subsets(tables):
                    fits = crowd_bars(room, sheet, hour, guests, some)
                    self.check(room, sheet, ("crowd", hour, guests, some), fits)
                    found += fits
        self.assertGreater(found, 100)


class Seat(Checks):
    def test_a_seat_that_is_open(self):
        sheet = sheet_of(2, 4, 0, 3, (), (("anna", ("a",)), ("bob", ("b",))))
        for name in ("anna", "bob"):
            self.check(ROOM, sheet, ("seat", name), False)

    def test_a_seat_that_is_not(self):
        few = sheet_of(1, 4, 0, 3, (), (("anna", ("c",)),))
        self.check(ROOM, few, ("seat", "anna"), True)
        shut = sheet_of(1, 4, 0, 3, (("d", 2, 1),), (("anna", ("d",)),))
        self.check(ROOM, shut, ("seat", "anna"), True)
        over = sheet_of(2, 4, 0, 3, (), (("anna", ("a",)), ("bob", ("a", "b"))))
        self.check(ROOM, over, ("seat", "anna"), True)
        self.check(ROOM, over, ("seat", "bob"), True)
        for spare in SPARES:
            self.check(ROOM, few, ("seat", "anna"), True, (("anna", ("c",)),), spare)

    def test_no_seat_and_no_party(self):
        sheet = sheet_of(2, 9, 0, 3, (), (("bob", ("c",)),))
        self.check(ROOM, sheet, ("seat", "bob"), True)
        for name in ("anna", "carl", "", None, 0, True, ("bob",), ["bob"], {"bob": 1}, "Bob", "bob\n"):
            self.check(ROOM, sheet, ("seat", name), False)


# Three parties of four guests at two tables, and the paper that goes through it all.
THREE = sheet_of(3, 4)
CARL = ("cases", "carl", ())
BOB_AT_A = ("cases", "bob", ((A, CARL),))
BOB_AT_B = ("cases", "bob", ((B, CARL),))
ROWS = ((A, BOB_AT_B), (B, BOB_AT_A), (AB, ("cases", "bob", ())))


class Cases(Checks):
    def test_cases_within_cases(self):
        self.check(PAIR, THREE, ("cases", "anna", ROWS), True)
        self.check(PAIR, sheet_of(2, 4), ("cases", "anna", ROWS), False)

    def test_rows_may_end_in_any_paper(self):
        left = ("crowd", 2, 4, ("b",))
        self.check(PAIR, THREE, ("cases", "anna", ((A, left), (B, ("crowd", 0, 1, ("a",))), ROWS[2])), True)
        self.check(PAIR, THREE, ("cases", "anna", ((A, ("crowd", 2, 4, ("a",))),) + ROWS[1:]), False)
        self.check(PAIR, THREE, ("cases", "anna", ROWS[:2] + ((AB, ("crowd", 0, 4, ())),)), True)

    def test_a_row_too_many_and_too_few(self):
        for rows in (ROWS[:2], ROWS[1:], ROWS[:1] + ROWS[2:], (), ROWS + ROWS[2:], ROWS[:1] + ROWS,
                     ROWS + ((("c",), CARL),), ROWS + ((None, None),)):
            self.check(PAIR, THREE, ("cases", "anna", rows), False)

    def test_two_rows_exchanged(self):
        for rows in ((ROWS[1], ROWS[0], ROWS[2]), (ROWS[0], ROWS[2], ROWS[1]), ROWS[::-1]):
            self.check(PAIR, THREE, ("cases", "anna", rows), False)

    def test_another_stand(self):
        for stand in (B, AB, ("c",), (), ["a"], "a", None, ("b", "a")):
            self.check(PAIR, THREE, ("cases", "anna", ((stand, BOB_AT_B),) + ROWS[1:]), False)

    def test_a_row_that_does_not_bar(self):
        for paper in (BOB_AT_A, CARL, ("seat", "anna"), ("seat", "bob"), None, (), ("cases", "anna", ROWS),
                      ("cases", "bob", ()), ("moves", ("bob",))):
            self.check(PAIR, THREE, ("cases", "anna", ((A, paper),) + ROWS[1:]), False)
            self.check(PAIR, THREE, ("cases", "anna", ROWS[:1] + ((B, paper),) + ROWS[2:]), paper == BOB_AT_A)

    def test_rows_of_another_form(self):
        for row in (list(ROWS[0]), (A,), (A, BOB_AT_B, None), (), None, A, "ab", (BOB_AT_B, A)):
            self.check(PAIR, THREE, ("cases", "anna", (row,) + ROWS[1:]), False)
        for rows in (list(ROWS), None, "", {}, dict(ROWS), 3):
            self.check(PAIR, THREE, ("cases", "anna", rows), False)
        for rows in ([], None, "", {}, 0, False, (None,)):
            self.check(PAIR, sheet_of(1, 9), ("cases", "anna", rows), False)

    def test_a_party_with_no_open_stand(self):
        self.check(PAIR, sheet_of(1, 9), ("cases", "anna", ()), True)
        self.check(PAIR, sheet_of(1, 8), ("cases", "anna", ()), False)
        for spare in SPARES:
            self.check(PAIR, sheet_of(1, 9), ("cases", "anna", ()), True, (("anna", A),), spare)

    def test_a_party_that_has_a_seat(self):
        sheet = sheet_of(3, 4, 0, 3, (), (("anna", A),))
        self.check(PAIR, sheet, ("cases", "bob", ((B, CARL),)), True)
        self.check(PAIR, sheet, ("cases", "anna", ((A, BOB_AT_B),)), False)
        bad = sheet_of(1, 9, 0, 3, (), (("anna", A),))
        self.check(PAIR, bad, ("cases", "anna", ()), False)

    def test_names_of_nobody(self):
        for name in ("dora", "", None, 0, ("anna",), ["anna"], {"anna": 1}, "Anna"):
            self.check(PAIR, sheet_of(3, 9), ("cases", name, ()), False)

    def test_a_large_paper(self):
        room = (((("a", 1), ("b", 1), ("c", 1)), (("d", 1), ("e", 1), ("f", 1))), 4)
        sheet = sheet_of(7, 1)
        paper = case_paper(room, sheet, (), None)
        self.check(room, sheet, paper, True)
        way = (2, 5, 1, 2, 4, 1, 2, 3, 1, 2, 2, 1, 2, 1, 1)
        self.assertEqual(at_way(paper, way)[1], "finn")
        self.check(room, sheet, put(paper, way, ("cases", "gerd", ())), False)
        self.check(room, sheet[:2] + (sheet[2][:6], ()), paper, False)


class Spares(Checks):
    """Two parties of four guests at two tables, both of which were at a."""

    sheet = sheet_of(2, 4)
    old = (("anna", A), ("bob", A))

    def test_at_a_spare_of_none_only_stands_that_are_kept_have_rows(self):
        moves = ("moves", ("bob",))
        paper = ("cases", "anna", ((A, moves),))
        self.check(PAIR, self.sheet, paper, True, self.old, 0)
        for spare in (None, 1, 2):
            self.check(PAIR, self.sheet, paper, False, self.old, spare)
        more = ("cases", "anna", ((A, moves), (B, moves), (AB, ("cases", "bob", ()))))
        self.check(PAIR, self.sheet, more, False, self.old, 0)
        self.check(PAIR, self.sheet, ("cases", "anna", ()), False, self.old, 0)

    def test_rows_fall_away_also_where_the_old_stand_is_not_open(self):
        shut = self.sheet[:1] + ((("a", 0, 1),),) + self.sheet[2:]
        self.check(PAIR, shut, ("cases", "anna", ()), True, self.old, 0)
        self.check(PAIR, shut, ("cases", "anna", ()), False, self.old, 1)
        self.check(PAIR, shut, ("cases", "anna", ()), False, self.old, None)
        self.check(PAIR, shut, ("cases", "anna", ()), False, (), 0)

    def test_without_an_old_stand_all_rows_stay_and_the_spare_too(self):
        old = (("bob", AB),)
        moves = ("moves", ("bob",))
        rows = ((A, moves), (B, moves), (AB, moves))
        self.check(PAIR, self.sheet, ("cases", "anna", rows), True, old, 0)
        self.check(PAIR, self.sheet, ("cases", "anna", rows), False, old, 1)
        self.check(PAIR, self.sheet, ("cases", "anna", rows[:1]), False, old, 0)

    def test_the_spare_that_is_left_to_a_row(self):
        # Three parties that were all at b; the stay of carl alone leaves b to be had twice.
        sheet = (3, (), (("anna", 4, 0, 1), ("bob", 4, 0, 1), ("carl", 5, 1, 1)), ())
        old = (("anna", B), ("bob", B), ("carl", B))
        two = ("moves", ("bob", "carl"))
        one = ("moves", ("carl",))
        bob_at_b = ("cases", "bob", ((B, one),))
        rows = ((A, bob_at_b), (B, two), (AB, ("cases", "bob", ())))
        self.check(PAIR, sheet, ("cases", "anna", rows), True, old, 1)
        for spare in (None, 0, 2):
            self.check(PAIR, sheet, ("cases", "anna", rows), False, old, spare)
        # The kept stand leaves the spare as it is, so one name is too few there.
        self.check(PAIR, sheet, ("cases", "anna", (rows[0], (B, one), rows[2])), False, old, 1)
        # A spare of 1 is 0 in the row at a: there bob's row at b is the only one.
        bob_rows = ("cases", "bob", ((B, one), (AB, one)))
        self.check(PAIR, sheet, ("cases", "anna", ((A, bob_rows),) + rows[1:]), False, old, 1)
        self.assertIs(has_dealing(PAIR, sheet, old, 1), False)
        self.assertIs(has_dealing(PAIR, sheet, old, 2), True)

    def test_rows_for_none_are_for_none(self):
        paper = ("cases", "anna", ((A, ("moves", ("bob",))), (B, ("moves", ("bob",))), (AB, ("moves", ("bob",)))))
        self.check(PAIR, self.sheet, paper, False, self.old, None)
        self.check(PAIR, THREE, ("cases", "anna", ROWS), True, self.old, None)

    def test_old_seats_of_strangers(self):
        old = (("aaa", A), ("zoe", A))
        self.check(PAIR, THREE, ("cases", "anna", ROWS), True, old, 0)
        self.check(PAIR, THREE, ("moves", ("aaa",)), False, old, 0)


class Moves(Checks):
    # Table a is shut, so who was at a or at a b cannot stay.
    shuts = (("a", 1, 1),)
    old = (("anna", A), ("bob", AB), ("carl", A), ("dora", B))

    def check_names(self, names, spare, fits, **more):
        sheet = sheet_of(5, 4, shuts=self.shuts, **more)
        self.check(PAIR, sheet, ("moves", names), fits, self.old, spare)

    def test_more_names_than_the_spare(self):
        three = ("anna", "bob", "carl")
        for spare, fits in ((0, True), (1, True), (2, True), (3, False), (4, False), (10 ** 59, False)):
            self.check_names(three, spare, fits)
        for spare, fits in ((0, True), (1, False), (2, False)):
            self.check_names(("bob",), spare, fits)
        self.check_names((), 0, False)

    def test_not_for_none(self):
        for names in (("anna",), ("anna", "bob", "carl"), ()):
            self.check_names(names, None, False)

    def test_names_that_do_not_rise(self):
        for names in (("bob", "anna"), ("anna", "carl", "bob"), ("anna", "anna"), ("anna", "bob", "bob"),
                      ("carl", "bob", "anna")):
            self.check_names(names, 0, False)
            self.check_names(names, 1, False)

    def test_a_party_with_a_seat(self):
        self.check_names(("anna", "bob"), 0, False, seats=(("bob", B),))
        self.check_names(("anna",), 0, True, seats=(("bob", B),))
        self.check_names(("bob",), 0, False, seats=(("bob", B),))

    def test_without_an_old_stand(self):
        self.check_names(("emil",), 0, False)
        self.check_names(("anna", "emil"), 0, False)

    def test_an_old_stand_that_is_open(self):
        self.check_names(("dora",), 0, False)
        self.check_names(("anna", "dora"), 0, False)
        self.check_names(("dora",), 0, True, seats=(("emil", B),))

    def test_names_of_nobody_and_of_anything(self):
        for name in ("zoe", "", "Anna", None, 0, True, ("anna",), ["anna"], {}):
            self.check_names((name,), 0, False)
            self.check_names(("anna", name), 0, False)
            self.check_names((name, "carl"), 0, False)
        for names in (["anna"], "anna", {"anna": 1}, None, 7, True):
            self.check_names(names, 0, False)


PAPERS = [
    (ROOM, sheet_of(4, 4), (), None, ("crowd", 0, 4, ("a", "b", "d"))),
    (ROOM, sheet_of(1, 4, 0, 3, (), (("anna", ("c",)),)), (), None, ("seat", "anna")),
    (PAIR, THREE, (), None, ("cases", "anna", ROWS)),
    (PAIR, THREE, Spares.old, 1, ("cases", "anna", ROWS)),
    (PAIR, sheet_of(2, 4), Spares.old, 0, ("cases", "anna", ((A, ("moves", ("bob",))),))),
    (PAIR, sheet_of(5, 4, shuts=Moves.shuts), Moves.old, 2, ("moves", ("anna", "bob", "carl"))),
]


class Anything(Checks):
    def test_of_anything(self):
        for room, sheet, old, spare, paper in PAPERS:
            for thing in ANYTHING + [list(paper), paper + (None,), paper[:-1], paper[1:], paper[:1], (paper,),
                                     (paper[0].upper(),) + paper[1:]]:
                self.check(room, sheet, thing, False, old, spare)

    def test_words_with_anything_behind_them(self):
        for word in ("crowd", "seat", "cases", "moves", "other", "", None):
            for many in range(5):
                for thing in NEVER:
                    for spare in (None, 0):
                        self.check(ROOM, sheet_of(2, 4), (word,) + (thing,) * many, False, (), spare)

    def test_a_few_places_otherwise(self):
        for room, sheet, old, spare, paper in PAPERS:
            self.check(room, sheet, paper, True, old, spare)
            for thing in spoilt(paper, NEVER):
                self.check(room, sheet, thing, False, old, spare)
            for thing in list(spoilt(paper, ANYTHING)) + list(cut_or_grown(paper)):
                if bars(room, sheet, old, spare, thing):
                    self.assertIs(has_dealing(room, sheet, old, spare), False)

    def test_nothing_handed_in_is_changed_and_the_same_is_told_again(self):
        for room, sheet, old, spare, paper in PAPERS:
            before = repr((room, sheet, old, spare, paper))
            inner = {"a": [1]}
            spoiled = put(paper, (len(paper) - 1,), [inner])
            for step in range(2):
                self.check(room, sheet, paper, True, old, spare)
                self.check(room, sheet, spoiled, False, old, spare)
            self.assertEqual(inner, {"a": [1]})
            self.assertEqual(repr((room, sheet, old, spare, paper)), before)


def leaves_of(room, sheet, old):
    """Every crowd, seat and moves of names that there are, whether they bar or not."""
    tables = [table[0] for row in room[0] for table in row]
    for hour, guests in itertools.product(range(sheet[0]), (1, 2, 4, 6)):
        for some in subsets(tables):
            yield ("crowd", hour, guests, some)
    for party in sheet[2]:
        yield ("seat", party[0])
        yield ("cases", party[0], ())
    for some in subsets([party[0] for party in sheet[2]]):
        yield ("moves", some)


class Truth(Checks):
    """What bars is true, gone through over all dealings of small sheets."""

    def test_what_bars_leaves_no_dealing(self):
        barred = 0
        for room, sheet, old in small_cases(150, 18):
            fewest = min([moves_in(sheet, old, dealing) for dealing in dealings_of(room, sheet)], default=None)
            for spare in SPARES:
                for paper in leaves_of(room, sheet, old):
                    if bars(room, sheet, old, spare, paper):
                        barred += 1
                        self.assertTrue(fewest is None or (spare is not None and fewest > spare), paper)
        self.assertGreater(barred, 100)

    def test_cases_gone_through_bar_just_where_no_dealing_is_left(self):
        told = {(spare, fits): 0 for spare in SPARES for fits in (True, False)}
        for room, sheet, old in small_cases(250, 19):
            for spare in SPARES:
                paper = case_paper(room, sheet, old, spare)
                left = has_dealing(room, sheet, old, spare)
                self.assertEqual(paper is None, left)
                self.check(room, sheet, paper, not left, old, spare)
                told[spare, left] += 1
        self.assertTrue(all(many > 10 for many in told.values()), told)

    def test_papers_of_other_spares_and_with_places_otherwise(self):
        for room, sheet, old in small_cases(60, 20):
            left = {spare: has_dealing(room, sheet, old, spare) for spare in SPARES}
            for made in SPARES:
                paper = case_paper(room, sheet, old, made) or ("cases", sheet[2][0][0], ())
                others = [paper] + self.some_otherwise(paper, sheet)
                for spare, thing in itertools.product(SPARES, others):
                    if bars(room, sheet, old, spare, thing):
                        self.assertIs(left[spare], False, (sheet, old, spare, thing))

    def some_otherwise(self, paper, sheet):
        inner = [way for way in ways_into(paper) if at_way(paper, way)[:1] == ("cases",)][:12]
        names = tuple(party[0] for party in sheet[2])
        news = [("cases", name, ()) for name in names] + [("moves", names[-1:]), ("moves", names[-2:])]
        return [put(paper, way, new) for way in inner for new in news]

    def test_moves_bar_as_their_words_say(self):
        for room, sheet, old in small_cases(150, 21):
            before = dict(old)
            due = [name for name in without_seat(sheet)
                   if name in before and not open_to(room, sheet, name, before[name])]
            for spare in SPARES:
                for some in subsets([party[0] for party in sheet[2]]):
                    fits = spare is not None and len(some) > spare and set(some) <= set(due)
                    self.check(room, sheet, ("moves", some), fits, old, spare)

    def test_a_case_is_of_the_sheet_with_its_seat(self):
        for room, sheet, old in small_cases(100, 22):
            for name in without_seat(sheet):
                rows = []
                for stand in stands_open_to(room, sheet, name):
                    rows.append((stand, case_paper(room, seated(sheet, name, stand), old, None)))
                fits = all(paper is not None for stand, paper in rows)
                self.check(room, sheet, ("cases", name, tuple(rows)), fits, old, None)


if __name__ == "__main__":
    unittest.main()
