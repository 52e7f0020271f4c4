"""Points [10] and [11], and [2] of seatword.rooms."""

import unittest

from seatword.rooms import do_meet, is_name, is_room, is_stand, places_of, stands_of, tables_of
from things import ANYTHING, NEVER, cut_or_grown, nested, as_tuple, spoilt

ROOM = (((("a", 4), ("b", 2), ("c", 6), ("d", 1)), (("f", 3), ("e", 5))), 1)
ONE = (((("a", 4),),), 0)


def row_of(names, places=2):
    return tuple((name, places) for name in names)


class Names(unittest.TestCase):
    def test_names(self):
        for text in ("a", "z", "anna", "zzzzzzzz", "abcdefgh", "m", "aa"):
            self.assertIs(is_name(text), True, text)

    def test_texts_that_are_none(self):
        for text in ("", "abcdefghi", "A", "Anna", "annA", "a1", "1", "12", " ", "a b", " a", "a ", "a\n", "\na",
                     "\n", "a-b", "a_", "`", "{", "~", "a" * 4000, "abcdefg\n", "abcdefgH"):
            self.assertIs(is_name(text), False, text)

    def test_each_letter_and_no_other_sign(self):
        letters = [chr(code) for code in range(10, 127) if is_name(chr(code))]
        self.assertEqual("".join(letters), "abcdefghijklmnopqrstuvwxyz")

    def test_of_anything(self):
        for thing in NEVER:
            self.assertIs(is_name(thing), False)
        for thing in (["a"], ("a",), {"a": "a"}, 0, 1, True, None, ("a", "n", "n", "a"), ["a", "n"]):
            self.assertIs(is_name(thing), False)


class Rooms(unittest.TestCase):
    def test_rooms(self):
        self.assertIs(is_room(ROOM), True)
        self.assertIs(is_room(ONE), True)

    def test_places(self):
        for places, fits in ((-1, False), (0, False), (1, True), (20, True), (21, False), (10 ** 59, False)):
            self.assertIs(is_room((((("a", places),),), 0)), fits, places)
            self.assertIs(is_room((((("b", 2),), (("a", places), ("c", 3))), 0)), fits, places)

    def test_lost(self):
        for lost, fits in ((-1, False), (0, True), (1, True), (4, True), (5, False), (10 ** 59, False)):
            self.assertIs(is_room((((("a", 4),),), lost)), fits, lost)

    def test_how_many_rows(self):
        for many, fits in ((0, False), (1, True), (4, True), (5, False)):
            rows = tuple(row_of(name) for name in "abcde"[:many])
            self.assertIs(is_room((rows, 0)), fits, many)

    def test_how_many_tables_in_a_row(self):
        for many, fits in ((0, False), (1, True), (6, True), (7, False)):
            row = row_of("abcdefg"[:many])
            self.assertIs(is_room(((row,), 0)), fits, many)
            self.assertIs(is_room(((row_of("z"), row), 0)), fits, many)

    def test_how_many_tables_in_all(self):
        self.assertIs(is_room(((row_of("abcdef"), row_of("gh")), 0)), True)
        self.assertIs(is_room(((row_of("abcdef"), row_of("ghi")), 0)), False)
        self.assertIs(is_room(((row_of("ab"), row_of("cd"), row_of("ef"), row_of("gh")), 0)), True)
        self.assertIs(is_room(((row_of("ab"), row_of("cd"), row_of("ef"), row_of("ghi")), 0)), False)

    def test_two_tables_with_one_name(self):
        self.assertIs(is_room((((("a", 2), ("a", 2)),), 0)), False)
        self.assertIs(is_room((((("a", 2), ("b", 2), ("a", 3)),), 0)), False)
        self.assertIs(is_room((((("a", 2),), (("a", 2),)), 0)), False)
        self.assertIs(is_room((((("a", 2), ("b", 2)), (("c", 1), ("a", 5))), 0)), False)

    def test_truths_are_no_numbers(self):
        for truth in (True, False):
            self.assertIs(is_room((((("a", truth),),), 0)), False)
            self.assertIs(is_room((((("a", 4),),), truth)), False)

    def test_names_of_tables(self):
        for name, fits in (("abcdefgh", True), ("abcdefghi", False), ("", False), ("A", False), ("a\n", False)):
            self.assertIs(is_room((((("b", 1), (name, 4)),), 0)), fits, name)

    def test_lists_for_tuples(self):
        for thing in ([((("a", 4),),), 0], ([(("a", 4),)], 0), (([("a", 4)],), 0), (((["a", 4],),), 0)):
            self.assertIs(is_room(thing), False)

    def test_too_many_and_too_few(self):
        for thing in ((), (ONE[0],), ONE + (0,), ONE + (None,), (((("a",),),), 0), (((("a", 4, 4),),), 0),
                      (((((),),),), 0), ((((("a", 4),),),), 0)):
            self.assertIs(is_room(thing), False)

    def test_of_anything(self):
        for thing in ANYTHING:
            self.assertIs(is_room(thing), False)
        for thing in spoilt(ROOM, NEVER):
            self.assertIs(is_room(thing), False)
        for thing in list(spoilt(ROOM, ANYTHING)) + list(cut_or_grown(ROOM)):
            self.assertIn(is_room(thing), (True, False))
        self.assertIs(is_room((nested(as_tuple, 39), 0)), False)
        self.assertIs(is_room(((row_of(["a"] * 990),), 0)), False)

    def test_tables_in_their_order(self):
        self.assertEqual(tables_of(ROOM), ["a", "b", "c", "d", "f", "e"])
        self.assertEqual(tables_of(ONE), ["a"])
        self.assertEqual(tables_of(((row_of("z"), row_of("ca"), row_of("b")), 4)), ["z", "c", "a", "b"])

    def test_the_list_of_tables_is_the_askers_own(self):
        told = tables_of(ROOM)
        told.append("z")
        told[0] = "y"
        self.assertEqual(tables_of(ROOM), ["a", "b", "c", "d", "f", "e"])


class Stands(unittest.TestCase):
    def test_order_in_one_row(self):
        self.assertEqual(stands_of(((row_of("dbca"),), 0)),
                         [("d",), ("b",), ("c",), ("a",), ("d", "b"), ("b", "c"), ("c", "a"),
                          ("d", "b", "c"), ("b", "c", "a")])

    def test_order_in_several_rows(self):
        self.assertEqual(stands_of(ROOM),
                         [("a",), ("b",), ("c",), ("d",), ("f",), ("e",),
                          ("a", "b"), ("b", "c"), ("c", "d"), ("f", "e"),
                          ("a", "b", "c"), ("b", "c", "d")])

    def test_rows_of_one_two_and_three(self):
        self.assertEqual(stands_of(ONE), [("a",)])
        self.assertEqual(stands_of(((row_of("z"), row_of("yx"), row_of("cba")), 0)),
                         [("z",), ("y",), ("x",), ("c",), ("b",), ("a",), ("y", "x"), ("c", "b"), ("b", "a"),
                          ("c", "b", "a")])

    def test_most_stands(self):
        self.assertEqual(len(stands_of(((row_of("abcdef"), row_of("gh")), 1))), 8 + 6 + 4)

    def test_stands_that_lost_leaves_no_places(self):
        self.assertEqual(stands_of((((("a", 1), ("b", 2), ("c", 2)),), 3)), [("a",), ("b",), ("c",), ("b", "c")])
        self.assertEqual(stands_of((((("a", 1), ("b", 1), ("c", 20)),), 2)),
                         [("a",), ("b",), ("c",), ("b", "c"), ("a", "b", "c")])
        self.assertEqual(stands_of((((("a", 1), ("b", 1), ("c", 1)),), 1)),
                         [("a",), ("b",), ("c",), ("a", "b"), ("b", "c"), ("a", "b", "c")])
        self.assertEqual(stands_of((((("a", 3), ("b", 2), ("c", 3)),), 4)),
                         [("a",), ("b",), ("c",), ("a", "b"), ("b", "c")])
        self.assertEqual(stands_of((((("a", 2), ("b", 2)),), 4)), [("a",), ("b",)])

    def test_places(self):
        self.assertEqual([places_of(ROOM, stand) for stand in stands_of(ROOM)],
                         [4, 2, 6, 1, 3, 5, 5, 7, 6, 7, 10, 7])
        for lost in range(5):
            room = (((("a", 7), ("b", 11), ("c", 20)),), lost)
            self.assertEqual(places_of(room, ("b",)), 11)
            self.assertEqual(places_of(room, ("b", "c")), 31 - lost)
            self.assertEqual(places_of(room, ("a", "b", "c")), 38 - 2 * lost)

    def test_the_list_of_stands_is_the_askers_own(self):
        told = stands_of(ONE)
        told.append(("b",))
        told[0] = None
        self.assertEqual(stands_of(ONE), [("a",)])
        self.assertIs(is_stand(ONE, ("b",)), False)

    def test_each_stand_is_one(self):
        for stand in stands_of(ROOM):
            self.assertIs(is_stand(ROOM, stand), True)
            self.assertIs(is_stand(ROOM, tuple(list(stand))), True)

    def test_what_is_no_stand(self):
        for thing in (("b", "a"), ("c", "b", "a"), ("a", "c"), ("a", "b", "d"), ("a", "d"), ("d", "f"),
                      ("c", "d", "f"), ("a", "a"), ("a", "b", "b"), ("a", "b", "c", "d"), (), ("z",), ("a", "z"),
                      ["a"], ["a", "b"], "a", "ab", (("a",),), (["a"],), ("A",), ("a\n",), ("a", None),
                      ("a", ("b",)), {"a": "b"}):
            self.assertIs(is_stand(ROOM, thing), False, thing)

    def test_one_that_lost_takes_away_is_none(self):
        room = (((("a", 1), ("b", 1), ("c", 20)),), 2)
        self.assertIs(is_stand(room, ("a", "b")), False)
        self.assertIs(is_stand(room, ("a", "b", "c")), True)

    def test_the_same_in_another_room(self):
        self.assertIs(is_stand(ROOM, ("a", "b")), True)
        self.assertIs(is_stand(ONE, ("a", "b")), False)

    def test_is_stand_of_anything(self):
        for thing in NEVER:
            self.assertIs(is_stand(ROOM, thing), False)
        for thing in list(ANYTHING) + list(spoilt(("a", "b", "c"), ANYTHING)):
            self.assertIs(is_stand(ROOM, thing), any(thing == stand for stand in stands_of(ROOM)))

    def test_do_meet_either_way_about(self):
        for one, other, meets in ((("a",), ("a",), True), (("a",), ("b",), False), (("a", "b"), ("b", "c"), True),
                                  (("a", "b", "c"), ("c", "d"), True), (("a", "b"), ("c", "d"), False),
                                  (("b",), ("a", "b", "c"), True), (("f", "e"), ("a", "b", "c"), False),
                                  (("ab",), ("a", "b"), False), (("a",), ("ab",), False)):
            self.assertIs(do_meet(one, other), meets)
            self.assertIs(do_meet(other, one), meets)


if __name__ == "__main__":
    unittest.main()
