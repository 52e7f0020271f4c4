"""Points [33] and [34] of rooms, sheets and dealings: what is written, what is read, what is refused at which row."""

import random
import unittest

from great import ALIKE, NAMES, great_room, great_sheet, parties_alike
from seatword.errors import NoText
from seatword.roomtexts import read_room, read_sheet, show_dealing, show_room, show_sheet
from seatword.rooms import is_room
from seatword.sheets import is_sheet
from small import is_plain, some_room, some_seats, some_sheet, some_span
from texts import dealing_text, otherwise, room_fault, room_text, sheet_fault, sheet_text

ROOM = (((("a", 4), ("b", 2), ("c", 6)), (("d", 8),)), 1)
WORDS = ["row", "lost", "hours", "shut", "party", "seat", "a", "b", "e", "anna", "zoe", "abcdefgh", "abcdefghi", "0",
         "1", "01", "00", "4", "5", "12", "13", "20", "21", "60", "61", "-1", "+1", "1.0", "", "Anna", "9" * 60,
         "9" * 61, "9" * 3000, "lost 0", "row a 1", "none", "None", "True", "-", ";"]


class Checks(unittest.TestCase):
    def row_of(self, read, *handed):
        """The row of NoText."""
        with self.assertRaises(NoText) as caught:
            read(*handed)
        self.assertIs(type(caught.exception), NoText)
        self.assertIs(type(caught.exception.row), int)
        return caught.exception.row

    def check_room(self, text, row):
        self.assertEqual(self.row_of(read_room, text), row, text)
        self.assertEqual(room_fault(text), row, text)

    def check_sheet(self, text, row, room=ROOM):
        self.assertEqual(self.row_of(read_sheet, room, text), row, text)
        self.assertEqual(sheet_fault(room, text), row, text)


class Rooms(Checks):
    def both_ways(self, room, text):
        self.assertTrue(is_room(room))
        self.assertEqual(show_room(room), text)
        told = read_room(text)
        self.assertEqual(told, room)
        self.assertTrue(is_plain(told))
        self.assertIsNone(room_fault(text))

    def test_written_sign_by_sign(self):
        self.both_ways(ROOM, "lost 1\nrow a 4 b 2 c 6\nrow d 8")
        self.both_ways((((("a", 1),),), 0), "lost 0\nrow a 1")
        self.both_ways((((("row", 20),), (("lost", 10),)), 4), "lost 4\nrow row 20\nrow lost 10")
        self.both_ways((((("abcdefgh", 9),), (("b", 1),), (("c", 2),), (("d", 3),)), 2),
                       "lost 2\nrow abcdefgh 9\nrow b 1\nrow c 2\nrow d 3")
        self.both_ways(ALIKE, "lost 4\nrow a 1 b 1 c 1 d 1 e 1 f 1\nrow g 1 h 1")

    def test_one_to_eight_tables_and_one_to_four_rows(self):
        chance = random.Random(33)
        seen = set()
        for step in range(300):
            room = great_room(chance) if step % 2 else some_room(chance)
            # Fewer tables of a great room.
            rows = [row[:chance.randint(1, len(row))] for row in room[0]][:chance.randint(1, 4)]
            room = (tuple(rows), chance.randint(0, 4))
            self.both_ways(room, room_text(room))
            seen.add((len(rows), sum(len(row) for row in rows)))
        self.assertEqual({many for many, tables in seen}, {1, 2, 3, 4})
        self.assertEqual({tables for many, tables in seen}, set(range(1, 9)))

    def test_the_first_row(self):
        for text in ("", "\n", "lost", "lost ", "lost 5", "lost 00", "lost 01", "lost -1", "lost +1", " lost 1",
                     "lost  1", "lost 1 ", "lost 1 1", "lost one", "Lost 1", "lostt 1", "los 1", "row a 4", "1",
                     "lost 1\t", "lost " + "9" * 3000, "lost 10", "lost 1.0", "lost1", "lost\n1", "hours 1", " "):
            for behind in ("", "\nrow a 4", "\nrow a 4\nrow", "\n"):
                self.check_room(text + behind, 0)

    def test_one_more_row_is_wanted(self):
        for lost in range(5):
            self.check_room("lost %d" % lost, 1)

    def test_a_row_that_cannot_stand_by_itself(self):
        for row in ("", " ", "row", "row ", "row a", "row a ", "row a 0", "row a 21", "row a 04", "row a 00",
                    "row a 4 ", "row  a 4", "row a  4", " row a 4", "row a 4 e", "row a 4 e 1 ", "row 4 a", "row a a",
                    "row 4 4", "row A 4", "row abcdefghi 4", "row a -4", "row a 4.0", "rows a 4", "row a4", "Row a 4",
                    "row a 1 b 1 c 1 d 1 e 1 f 1 g 1", "row a 1 a 1", "row a 1 a 2", "row a 4 b 2 a 4", "lost 1",
                    "row a 4\trow b 4", "row a " + "1" * 61, "row a " + "9" * 3900, "row a_b 4", "row a 4;", "tables a 4",
                    "row a 4 / row b 4", "row a 100", "row a 4 b", "a 4"):
            self.check_room("lost 1\n" + row, 1)
            self.check_room("lost 1\nrow z 4\n" + row, 2)
            self.check_room("lost 1\nrow z 4\n" + row + "\nrow y 4", 2)
            self.check_room("lost 1\nrow z 4\n" + row + "\n" + row, 2)

    def test_a_row_that_cannot_stand_by_what_is_ahead(self):
        self.check_room("lost 1\nrow a 4\nrow a 4", 2)
        self.check_room("lost 1\nrow a 4\nrow b 4\nrow c 1 a 5", 3)
        self.check_room("lost 1\nrow a 1 b 1 c 1 d 1 e 1 f 1\nrow g 1 h 1 i 1", 2)
        self.check_room("lost 1\nrow a 1 b 1 c 1 d 1\nrow e 1 f 1 g 1 h 1\nrow i 1", 3)
        self.check_room("lost 1\nrow a 1\nrow b 1\nrow c 1\nrow d 1\nrow e 1", 5)
        self.check_room("lost 1\nrow a 1\nrow b 1\nrow c 1\nrow d 1\nrow e 1\nrow", 5)
        self.check_room("lost 1\nrow a 1\nlost 1", 2)

    def test_line_feeds(self):
        self.check_room("lost 1\nrow a 4\n", 2)
        self.check_room("lost 1\n", 1)
        self.check_room("lost 1\n\nrow a 4", 1)
        self.check_room("lost 1\nrow a 4\n\nrow b 4", 2)
        self.check_room("\nlost 1\nrow a 4", 0)
        self.check_room("lost 1\nrow a 4\n\n", 2)

    def test_the_first_fault_goes(self):
        self.check_room("lost 5\nrow a 0\nrow", 0)
        self.check_room("lost 4\nrow a 0\nrow", 1)
        self.check_room("lost 4\nrow a 1\nrow", 2)

    def test_texts_otherwise(self):
        chance = random.Random(331)
        read = refused = 0
        for step in range(6000):
            room = great_room(chance) if step % 2 else some_room(chance)
            text = room_text(room)
            for change in range(chance.randint(1, 2)):
                text = otherwise(chance, text, WORDS)
            row = room_fault(text)
            if row is not None:
                self.assertEqual(self.row_of(read_room, text), row, text)
                refused += 1
            else:
                told = read_room(text)
                self.assertTrue(is_room(told) and is_plain(told))
                self.assertEqual((show_room(told), room_text(told)), (text, text))
                read += 1
        self.assertGreater(min(read, refused), 300)


class Sheets(Checks):
    def both_ways(self, room, sheet, text):
        self.assertTrue(is_sheet(room, sheet))
        self.assertEqual(show_sheet(sheet), text)
        told = read_sheet(room, text)
        self.assertEqual(told, sheet)
        self.assertTrue(is_plain(told))
        self.assertIsNone(sheet_fault(room, text))

    def test_written_sign_by_sign(self):
        self.both_ways(ROOM, (5, (), (), ()), "hours 5")
        self.both_ways(ROOM, (12, (("d", 0, 12), ("a", 11, 1), ("d", 0, 12)), (), ()),
                       "hours 12\nshut d 0 12\nshut a 11 1\nshut d 0 12")
        self.both_ways(ROOM, (5, (), (("anna", 60, 0, 5), ("bob", 1, 4, 1)), (("bob", ("a", "b", "c")),)),
                       "hours 5\nparty anna 60 0 5\nparty bob 1 4 1\nseat bob a b c")
        self.both_ways(ROOM, (1, (("d", 0, 1),), (("ann", 2, 0, 1), ("anna", 2, 0, 1)),
                              (("ann", ("a",)), ("anna", ("b", "c")))),
                       "hours 1\nshut d 0 1\nparty ann 2 0 1\nparty anna 2 0 1\nseat ann a\nseat anna b c")
        # A seat need not be open to its party.
        self.both_ways(ROOM, (1, (("a", 0, 1),), (("anna", 60, 0, 1),), (("anna", ("a",)),)),
                       "hours 1\nshut a 0 1\nparty anna 60 0 1\nseat anna a")

    def test_twelve_shuts_eight_parties_and_eight_seats(self):
        parties = parties_alike(8, 60, 2, 9)
        seats = tuple((name, (table,)) for name, table in zip(NAMES, "abcdefgh"))
        sheet = (12, (("h", 3, 9),) * 12, parties, seats)
        self.both_ways(ALIKE, sheet, sheet_text(sheet))

    def test_by_chance(self):
        chance = random.Random(34)
        parties, shuts, stands = set(), set(), set()
        for step in range(300):
            room = great_room(chance) if step % 2 else some_room(chance)
            sheet = great_sheet(chance, room, chance.randint(1, 12), 60, chance.randint(0, 8)) if step % 2 else (
                some_sheet(chance, room))
            more = tuple((room[0][0][0][0],) + some_span(chance, sheet[0]) for shut in range(chance.randint(0, 9)))
            names = [party[0] for party in sheet[2]]
            sheet = (sheet[0], sheet[1] + more, sheet[2], some_seats(chance, room, names, 0.5))
            self.both_ways(room, sheet, sheet_text(sheet))
            parties.add(len(names))
            shuts.add(len(sheet[1]))
            stands |= {len(stand) for name, stand in sheet[3]}
        self.assertEqual((parties, shuts, stands), (set(range(9)), set(range(13)), {1, 2, 3}))

    def test_the_first_row(self):
        for text in ("", "hours", "hours ", "hours 0", "hours 13", "hours 01", "hours 012", " hours 5", "hours  5",
                     "hours 5 ", "hours 5 5", "hours five", "Hours 5", "hour 5", "5", "lost 1", "shut a 0 1", "\n",
                     "hours 120", "hours " + "1" * 3000, "hours -5"):
            for behind in ("", "\nshut a 0 1", "\n"):
                self.check_sheet(text + behind, 0)

    def test_a_row_that_cannot_stand_by_itself(self):
        for row in ("", " ", "shut", "shut a", "shut a 0", "shut a 0 1 1", "shut a 0 0", "shut a 0 6", "shut a 5 1",
                    "shut a 4 2", "shut a 00 1", "shut a 0 01", "shut z 0 1", "shut A 0 1", "shut 0 0 1",
                    "shut a b 1", "shut a -1 1", "shut  a 0 1", "shut a 0 1 ", " shut a 0 1", "shut a  0 1",
                    "shut a 0 " + "9" * 61, "shut a 0 " + "9" * 3900, "shuts a 0 1", "Shut a 0 1", "shut ab 0 1",
                    "party", "party anna", "party anna 2 0", "party anna 2 0 1 1", "party anna 0 0 1",
                    "party anna 61 0 1", "party anna 2 0 6", "party anna 2 5 1", "party anna 02 0 1",
                    "party Anna 2 0 1", "party annaannaa 2 0 1", "party 2 2 0 1", "party anna two 0 1",
                    "party anna 2 0 1 ", "party  anna 2 0 1", "party anna 2 0 0", "parties anna 2 0 1",
                    "seat", "seat anna", "seat anna a", "seat anna ", "hours 5", "close a 0 0 0 1", "-", "anna a"):
            self.check_sheet("hours 5\n" + row, 1)
            self.check_sheet("hours 5\nshut d 0 5\n" + row, 2)
            self.check_sheet("hours 5\nshut d 0 5\n" + row + "\nparty anna 2 0 1", 2)

    def test_the_order_of_the_rows(self):
        head = "hours 5\nparty anna 2 0 1"
        self.check_sheet(head + "\nshut a 0 1", 2)
        self.check_sheet(head + "\nseat anna a\nshut a 0 1", 3)
        self.check_sheet(head + "\nseat anna a\nparty bob 2 0 1", 3)
        self.check_sheet("hours 5\nseat anna a\nparty anna 2 0 1", 1)
        self.check_sheet(head + "\nhours 5", 2)

    def test_names_that_do_not_rise(self):
        head = "hours 5\nparty anna 2 0 1\nparty carl 2 0 1\n"
        for name in ("anna", "bob", "carl", "ann", "car"):
            self.check_sheet(head + "party %s 3 1 1" % name, 3)
        for name in ("carla", "d", "zoe", "cb"):
            self.assertEqual(len(read_sheet(ROOM, head + "party %s 3 1 1" % name)[2]), 3)
        self.check_sheet(head + "seat carl a\nseat anna b", 4)
        self.check_sheet(head + "seat anna a\nseat anna b", 4)
        self.check_sheet(head + "seat anna a\nseat anna a", 4)
        self.assertEqual(len(read_sheet(ROOM, head + "seat anna a\nseat carl a")[3]), 2)

    def test_too_many(self):
        shuts = "hours 5" + "\nshut a 0 1" * 12
        self.assertEqual(len(read_sheet(ROOM, shuts)[1]), 12)
        self.check_sheet(shuts + "\nshut a 0 1", 13)
        self.check_sheet(shuts + "\nshut a 0 1\nshut", 13)
        parties = "hours 5" + "".join("\nparty %s 1 0 1" % name for name in NAMES)
        self.assertEqual(len(read_sheet(ROOM, parties)[2]), 8)
        self.check_sheet(parties + "\nparty zoe 1 0 1", 9)
        self.check_sheet(shuts + parties[7:] + "\nparty zoe 1 0 1", 21)

    def test_seats(self):
        head = "hours 5\nparty anna 2 0 1\nparty carl 2 0 1\n"
        for seat in ("bob a", "zoe a", "anna", "anna z", "anna a c", "anna b a", "anna a b c d", "anna c d",
                     "anna a a", "anna a b c a", "Anna a", "anna A", "anna 4", "anna a ", "anna  a", "4 a", "ann a",
                     "anna ab", "anna a;"):
            self.check_sheet(head + "seat " + seat, 3)
        for seat in ("anna a", "anna d", "anna a b", "anna b c", "anna a b c", "carl c"):
            self.assertIsNone(sheet_fault(ROOM, head + "seat " + seat))
            self.assertEqual(show_sheet(read_sheet(ROOM, head + "seat " + seat)), head + "seat " + seat)

    def test_line_feeds(self):
        self.check_sheet("hours 5\n", 1)
        self.check_sheet("hours 5\n\nshut a 0 1", 1)
        self.check_sheet("hours 5\nshut a 0 1\n", 2)
        self.check_sheet("\nhours 5", 0)

    def test_of_another_room(self):
        text = "hours 5\nshut d 0 1\nparty anna 2 0 1\nseat anna a b"
        self.assertEqual(show_sheet(read_sheet(ROOM, text)), text)
        self.check_sheet(text, 1, (((("a", 4), ("b", 2)),), 1))
        self.check_sheet(text, 3, (((("a", 4), ("c", 1), ("b", 2), ("d", 1)),), 1))
        self.check_sheet(text, 3, (((("b", 4), ("a", 2)), (("d", 1),)), 0))
        # Of these two tables so much is lost that they are no stand together.
        self.check_sheet(text, 3, (((("a", 1), ("b", 2)), (("d", 1),)), 3))
        room = (((("a", 1), ("b", 2)), (("d", 1),)), 2)
        self.assertEqual(read_sheet(room, text)[3], (("anna", ("a", "b")),))

    def test_the_first_fault_goes(self):
        self.check_sheet("hours 5\nshut a 0 1\nshut a 0 9\nparty", 2)
        self.check_sheet("hours 5\nshut a 0 1\nparty anna 2 0 1\nshut a 0 1\nseat zoe a", 3)

    def test_texts_otherwise(self):
        chance = random.Random(341)
        read = refused = 0
        for step in range(6000):
            room = great_room(chance) if step % 2 else some_room(chance)
            sheet = great_sheet(chance, room, chance.randint(1, 12), 9, chance.randint(1, 8)) if step % 2 else (
                some_sheet(chance, room))
            names = [party[0] for party in sheet[2]]
            text = sheet_text(sheet[:3] + (some_seats(chance, room, names, 0.4),))
            for change in range(chance.randint(1, 2)):
                text = otherwise(chance, text, WORDS + NAMES)
            row = sheet_fault(room, text)
            if row is not None:
                self.assertEqual(self.row_of(read_sheet, room, text), row, text)
                refused += 1
            else:
                told = read_sheet(room, text)
                self.assertTrue(is_sheet(room, told) and is_plain(told))
                self.assertEqual((show_sheet(told), sheet_text(told)), (text, text))
                read += 1
        self.assertGreater(min(read, refused), 300)


class Dealings(Checks):
    def test_written_sign_by_sign(self):
        self.assertEqual(show_dealing(()), "-")
        self.assertEqual(show_dealing((("anna", ("a",)),)), "anna a")
        self.assertEqual(show_dealing((("anna", ("a", "b")), ("bob", ("c",)))), "anna a b; bob c")
        eight = tuple((name, ("a", "b", "c")[:1 + at % 3]) for at, name in enumerate(NAMES))
        self.assertEqual(show_dealing(eight), "anna a; bob a b; carl a b c; dora a; emil a b; finn a b c; gerd a; "
                                              "hans a b")
        self.assertEqual(show_dealing(eight), dealing_text(eight))


if __name__ == "__main__":
    unittest.main()
