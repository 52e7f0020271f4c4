"""Point [36] and [2], [3] of desks: what a desk is told, what it answers, what it refuses."""

import random
import unittest

from chances import DEEDS, PAIR
from deskmodel import QUESTIONS, DeskBeside
from great import ALIKE, NAMES
from model import WORDS
from seatword.desk import Desk
from seatword.errors import NoAsk, NoDay, NoRow, SeatError
from texts import order_text, otherwise
from things import ANYTHING

# Stands and their places: a 4, b 2, c 6, d 4, a b 5, b c 7, a b c 10.
ROOM = (((("a", 4), ("b", 2), ("c", 6)), (("d", 4),)), 1)
ONE = (((("a", 4),),), 0)
GREAT = "9" * 60


class Checks(unittest.TestCase):
    def beside(self, room=ROOM, hours=5, grace=1):
        return DeskBeside(self, room, hours, grace)

    def says(self, beside, *rows):
        """Rows and their answers, one behind the other."""
        for row, answer in zip(rows[::2], rows[1::2]):
            self.assertEqual(beside.say(row), answer, row)

    def refused(self, beside, refusal, *rows, **fields):
        for row in rows:
            self.assertEqual(beside.say(row), (refusal, sorted(fields.items())), row)


class Orders(Checks):
    def test_the_method_stands_in_the_class_itself(self):
        self.assertIn("say", vars(Desk))
        self.assertIn("__init__", vars(Desk))

    def test_yes_with_none_one_and_several_moved(self):
        beside = self.beside(PAIR, 3, 1)
        self.says(beside, "0 shut a 0 1", "yes", "0 book anna 2 0 3", "yes", "0 unshut a 0 1", "ok",
                  "0 book bob 3 0 2", "yes anna", "0 dealing", ("NoRow", []), "dealing 0", "anna a; bob b",
                  "0 book carl 4 2 1", "yes")
        room = (((("a", 2),), (("b", 2),), (("c", 4),), (("d", 4),)), 0)
        beside = self.beside(room, 1, 0)
        self.says(beside, "4 shut a 0 1", "yes", "4 shut b 0 1", "yes", "4 book bob 1 0 1", "yes",
                  "4 book anna 2 0 1", "yes", "4 unshut a 0 1", "ok", "4 unshut b 0 1", "ok",
                  "4 book carl 4 0 1", "yes bob", "4 book dora 3 0 1", "yes anna")
        beside = self.beside(room, 1, 0)
        self.says(beside, "4 shut a 0 1", "yes", "4 shut b 0 1", "yes", "4 book bob 1 0 1", "yes",
                  "4 book anna 2 0 1", "yes", "4 unshut a 0 1", "ok", "4 unshut b 0 1", "ok",
                  "4 shut c 0 1", "yes bob", "undo 4", "ok", "close d 4 5 0 1", "yes; 4 anna", "undo 5", "ok")

    def test_several_moved_by_one_deed(self):
        room = (((("a", 4), ("b", 4)), (("c", 4),), (("d", 4),)), 0)
        beside = self.beside(room, 1, 0)
        self.says(beside, "9 book anna 3 0 1", "yes", "9 book bob 3 0 1", "yes", "dealing 9", "anna a; bob b",
                  "9 book carl 8 0 1", "yes anna bob", "undo 9", "ok", "9 walk carl 7 1", "yes anna bob at a b",
                  "dealing 9", "anna c; bob d; carl a b", "undo 9", "ok", "9 wait carl 8 1", "ok",
                  "9 call", "carl yes anna bob at a b", "undo 9", "ok", "waiting 9", "carl")

    def test_walk_and_call_with_their_stands(self):
        beside = self.beside(PAIR, 2, 1)
        self.says(beside, "1 shut a 0 1", "yes", "1 book anna 2 0 2", "yes", "1 go_on", "gone lapsed",
                  "1 walk bob 3 1", "yes anna at b", "undo 1", "ok", "1 wait bob 3 1", "ok",
                  "1 call", "bob yes anna at b", "1 call", "none", "1 wait carl 9 1", "ok", "1 call", "none",
                  "2 walk bob 3 1", "yes at b", "2 wait carl 1 1", "ok", "2 call", "carl yes at a",
                  "3 walk bob 5 1", "no at 0 from 5")
        beside = self.beside()
        self.says(beside, "1 walk bob 10 1", "yes at a b c", "1 wait ida 4 5", "ok", "1 call", "ida yes at d")

    def test_parties_and_tables_that_are_called_as_answers(self):
        room = (((("no", 4), ("yes", 4), ("none", 4)),), 1)
        beside = self.beside(room, 3, 1)
        self.says(beside, "0 wait yes 1 1", "ok", "0 wait no 7 2", "ok", "0 wait none 2 1", "ok",
                  "0 call", "yes yes at no", "0 call", "no yes at yes none", "0 call", "none", "waiting 0", "none",
                  "0 leave yes", "ok", "0 call", "none yes at no", "waiting 0", "none", "0 book ok 1 2 1", "yes",
                  "0 go_on", "gone none lapsed", "0 go_on", "gone no lapsed", "0 come ok", "no")
        beside = self.beside(room, 3, 0)
        self.says(beside, "0 book no 4 0 2", "yes", "0 book yes 4 0 1", "yes", "0 come no", "no", "0 come yes", "yes",
                  "0 book none 9 0 1", "no at 0 from 9", "close no 0 0 2 1", "yes", "0 go_on", "gone yes lapsed")

    def test_no_by_a_crowd_and_by_another_paper(self):
        beside = self.beside()
        self.says(beside, "5 book anna 10 0 5", "yes", "5 book bob 11 3 1", "no at 3 from 11",
                  "5 book bob 7 2 1", "no at 2 from 7", "5 book bob 5 2 1", "no", "5 book bob 4 2 3", "yes", "5 change bob 60 1 1",
                  "no at 1 from 60", "5 come bob", ("Early", [("hour", 2)]), "5 come anna", "a b c",
                  "5 shut a 3 1", "no", "5 shut d 3 1", "no at 3 from 4")
        # Each hour has tables enough, but not the same ones.
        room = (((("a", 2),), (("b", 2),)), 0)
        beside = self.beside(room, 3, 0)
        self.says(beside, "0 shut a 0 1", "yes", "0 shut b 2 1", "yes", "0 book anna 1 0 3", "no",
                  "0 book anna 1 0 2", "yes", "0 longer anna 1", "no", "0 longer anna 2", ("NoAsk", []))
        self.says(beside, "1 walk anna 2 1", "yes at a", "close a 0 3 0 1", "1 no", "close b 1 1 0 2", "yes")

    def test_come_and_go_on(self):
        beside = self.beside(ALIKE, 5, 1)
        for name, begin, stay in (("gerd", 0, 1), ("finn", 0, 2), ("anna", 0, 1), ("bob", 0, 5), ("carl", 1, 2),
                                  ("dora", 0, 3), ("emil", 0, 1)):
            self.says(beside, "8 book %s 1 %d %d" % (name, begin, stay), "yes")
        for name in ("gerd", "finn", "emil"):
            beside.say("8 come " + name)
        self.says(beside, "late 8", "none", "8 go_on", "gone emil gerd lapsed anna", "late 8", "bob dora",
                  "8 go_on", "gone finn lapsed bob dora", "late 8", "carl", "8 go_on", "gone lapsed carl",
                  "8 go_on", "gone lapsed", "8 go_on", ("Over", []), "now 8", "4", "now 7", "0")
        beside = self.beside()
        self.says(beside, "8 book anna 7 0 1", "yes", "8 come anna", "b c", "8 walk bob 1 1", "yes at a",
                  "8 go_on", "gone anna bob lapsed")

    def test_each_word(self):
        beside = self.beside(PAIR, 4, 1)
        for deed in DEEDS:
            told = beside.say("11 " + order_text(deed))
            if deed[0] in ("cancel", "unshut", "leave", "hold", "wait", "give_up"):
                self.assertEqual(told, "ok")
            else:
                self.assertNotIn(told, ("ok", "none"))
            beside.compare()
        self.assertEqual(beside.desk.say("log"), " / ".join("11 " + order_text(deed) for deed in DEEDS))

    def test_as_the_house_refuses(self):
        beside = self.beside(ONE, 2, 0)
        self.says(beside, "3 book anna 2 1 1", "yes", "3 wait bob 2 1", "ok")
        self.refused(beside, "NoName", "3 book annaannaa 2 0 1", "3 book 5 2 0 1", "3 wait 0 0 0")
        self.refused(beside, "Taken", "3 book bob 2 0 1", "3 walk bob 0 0", name="bob")
        self.refused(beside, "Unknown", "3 cancel zoe", "3 leave zoe", "3 come zoe", "3 hold zoe 0", name="zoe")
        self.refused(beside, "Unknown", "3 cancel 5", name=5)
        self.refused(beside, "Unknown", "3 cancel " + GREAT, name=10 ** 60 - 1)
        self.refused(beside, "NoAsk", "3 hold anna 0", "3 hold anna zoe", "3 book zoe 2 2 1", "3 shut zoe 0 1",
                     "3 shut 0 0 1", "close zoe 0 0 0 1", "close abcdefghijkl 0 0 0 1", "close a 0 0 0 3",
                     "close a 0 0 " + GREAT + " 1")
        self.refused(beside, "NotSitting", "3 leave anna", name="anna")
        self.refused(beside, "NoShut", "3 unshut a 0 1", "3 unshut 5 a b")
        self.refused(beside, "Early", "3 come anna", hour=1)
        self.refused(beside, "NoDay", "31 call", "31 cancel zoe", GREAT + " go_on", "undo 31", "sheet 31",
                     "dealing 31", "late 31", "waiting 31", "now 31", "close a 0 31 0 1", "close a 31 31 0 1",
                     "close a 1 0 0 1", "close zoe 1 0 0 9", "still 31 1", "earliest 31 1 1 0", "now " + GREAT)
        self.refused(beside, "NoDeed", "undo 0", "undo 30")
        self.says(beside, "close a 2 4 0 1", "yes", "4 go_on", "gone lapsed")
        self.refused(beside, "Bound", "undo 2", "undo 3", day=4)
        self.says(beside, "4 go_on", ("Over", []), "undo 4", "ok", "undo 3", "ok", "log",
                  "3 book anna 2 1 1 / 3 wait bob 2 1")


class Closings(Checks):
    def test_moved_ones_on_some_days(self):
        room = (((("a", 4), ("b", 4)), (("c", 4),), (("d", 4),)), 0)
        beside = self.beside(room, 2, 0)
        self.says(beside, "close a 0 30 1 1", "yes", "undo 17", "ok")
        self.says(beside, "3 book anna 2 0 1", "yes", "5 book carl 3 0 1", "yes",
                  "close a 3 3 0 1", "yes; 3 anna", "undo 3", "ok", "close a 3 5 0 1", "yes; 3 anna; 5 carl",
                  "undo 4", "ok", "close b 2 6 0 1", "yes", "undo 4", "ok", "close a 4 5 0 1", "yes; 5 carl")

    def test_several_moved_on_one_day(self):
        # Two parties sit one behind the other at the table.
        beside = self.beside(PAIR, 2, 0)
        self.says(beside, "3 shut b 0 2", "yes", "3 book anna 2 0 1", "yes", "3 book bob 2 1 1", "yes",
                  "3 unshut b 0 2", "ok", "5 shut b 0 2", "yes", "5 book carl 1 0 2", "yes", "5 unshut b 0 2", "ok",
                  "close a 2 5 0 2", "yes; 3 anna bob; 5 carl", "dealing 3", "anna b; bob b",
                  "log", "3 shut b 0 2 / 3 book anna 2 0 1 / 3 book bob 2 1 1 / 3 unshut b 0 2 / 5 shut b 0 2"
                  " / 5 book carl 1 0 2 / 5 unshut b 0 2 / close a 2 5 0 2")

    def test_a_no(self):
        beside = self.beside(PAIR, 3, 0)
        self.says(beside, "4 book anna 3 0 3", "yes", "6 walk anna 3 3", "yes at b",
                  "close b 3 6 2 1", "4 no at 2 from 3", "close b 5 7 2 1", "6 no", "log",
                  "4 book anna 3 0 3 / 6 walk anna 3 3", "sheet 5", "hours 3")


class Asked(Checks):
    def test_with_nothing_in_them(self):
        beside = self.beside()
        for day in (0, 30):
            self.says(beside, "sheet %d" % day, "hours 5", "dealing %d" % day, "-", "late %d" % day, "none",
                      "waiting %d" % day, "none", "now %d" % day, "0", "still %d 5" % day, "10",
                      "still %d 1" % day, "10 10 10 10 10", "earliest %d 10 5 0" % day, "0",
                      "earliest %d 11 1 0" % day, "none")
        self.says(beside, "log", "")

    def test_with_much_in_them(self):
        beside = self.beside(ALIKE, 12, 12)
        for step in range(12):
            beside.say("2 shut %s %d 1" % ("ah"[step % 2], step // 6 * 11))
        for at, name in enumerate(NAMES):
            beside.say("2 book %s 1 %d %d" % (name, at, 3))
        for name in ("zoe", "ida", "kai"):
            beside.say("2 wait %s 2 3" % name)
        beside.say("2 go_on")
        beside.say("2 come bob")
        self.assertEqual(beside.say("sheet 2").count("shut"), 6)
        self.assertEqual(beside.say("sheet 2").count("party"), 8)
        self.assertRegex(beside.say("sheet 2"), " / seat bob [a-h]$")
        self.says(beside, "late 2", "anna", "waiting 2", "zoe ida kai", "now 2", "1")
        self.assertEqual(beside.say("dealing 2").count("; "), 7)
        # Eight parties are there.
        self.says(beside, "still 2 3", " ".join("0" * 10), "earliest 2 1 1 0", "none")
        self.assertEqual(beside.say("log").count(" / "), 24)

    def test_still_and_earliest(self):
        beside = self.beside()
        for row in ("0 book anna 4 1 2", "0 book bob 6 2 3", "0 shut d 0 2", "0 book carl 4 2 1", "1 go_on"):
            beside.say(row)
        for stay in range(1, 6):
            told = beside.say("still 0 %d" % stay)
            self.assertEqual(len(told.split(" ")), 6 - stay)
            for guests in (1, 2, 4, 5, 6, 7, 10, 11, 60):
                for begin in (0, 1, 2, 4, 5, 12, 10 ** 59):
                    beside.say("earliest 0 %d %d %d" % (guests, stay, begin))
        # Hours ahead of now are told as others.
        self.says(beside, "still 1 1", "10 10 10 10 10", "earliest 1 10 1 0", "0", "earliest 1 10 1 4", "4",
                  "earliest 1 10 1 5", "none", "earliest 1 10 2 4", "none", "earliest 1 10 1 " + GREAT, "none")

    def test_no_day_ahead_of_no_ask(self):
        beside = self.beside()
        for guests, stay in ((0, 1), (61, 1), (1, 0), (1, 6), (0, 0), (GREAT, 1), (1, GREAT), (100, 100)):
            self.refused(beside, "NoAsk", "earliest 0 %s %s 0" % (guests, stay), "earliest 30 %s %s 99" % (guests, stay))
            self.refused(beside, "NoDay", "earliest 31 %s %s 0" % (guests, stay))
        for stay in (0, 6, 12, GREAT):
            self.refused(beside, "NoAsk", "still 0 %s" % stay)
            self.refused(beside, "NoDay", "still 31 %s" % stay)
        for error, row in ((NoAsk, "still 0 0"), (NoDay, "still 31 0"), (NoRow, "still 0")):
            with self.assertRaises(error) as caught:
                Desk(ROOM, 5, 1).say(row)
            self.assertIs(type(caught.exception), error)
        self.says(beside, "earliest 0 60 1 0", "none", "earliest 0 1 5 0", "0", "earliest 0 1 5 1", "none")

    def test_nothing_hangs_on_what_was_asked(self):
        rows = ["0 book anna 4 1 2", "0 book bob 6 2 3", "close d 0 1 0 2", "undo 1", "0 walk carl 2 1", "1 call",
                "0 book dora 7 1 2", "0 wait emil 2 2", "0 call", "0 go_on"]
        questions = ["sheet 0", "dealing 0", "still 0 1", "earliest 0 4 1 0", "late 0", "waiting 0", "now 0", "log"]
        quiet, asked, third = Desk(ROOM, 5, 1), Desk(ROOM, 5, 1), Desk(ROOM, 5, 1)
        for row in rows:
            for question in questions * 2:
                asked.say(question)
            for wrong in ("", "0 cancel zoe", "31 call", "load x", "undo 9"):
                with self.assertRaises(SeatError):
                    asked.say(wrong)
            self.assertEqual(asked.say(row), quiet.say(row))
        for question in questions:
            self.assertEqual(asked.say(question), quiet.say(question))
            self.assertEqual(asked.say(question), asked.say(question))
        self.assertEqual(third.say("log"), "")
        self.assertEqual(third.say("sheet 0"), "hours 5")


class Load(Checks):
    def full(self):
        beside = self.beside()
        self.says(beside, "0 book anna 4 1 2", "yes", "close d 0 1 0 2", "yes", "0 wait bob 2 1", "ok")
        return beside

    def test_a_log(self):
        beside = self.full()
        log = beside.say("log")
        self.assertEqual(log, "0 book anna 4 1 2 / close d 0 1 0 2 / 0 wait bob 2 1")
        other = self.beside()
        self.says(other, "3 go_on", "gone lapsed", "load " + log, "ok", "log", log, "now 3", "0")
        other.compare()
        for row in ("0 call", "0 book carl 10 0 5", "undo 1", "undo 0", "dealing 0"):
            self.assertEqual(other.say(row), beside.say(row))
        self.assertEqual(other.say("log"), beside.say("log"))

    def test_none(self):
        beside = self.full()
        self.says(beside, "load ", "ok", "log", "", "sheet 0", "hours 5", "waiting 0", "none", "undo 0",
                  ("NoDeed", []))
        beside.compare()

    def test_the_same_room_hours_and_grace(self):
        beside = self.beside(PAIR, 4, 2)
        self.says(beside, "load 0 book anna 3 0 4 / 0 go_on / 0 go_on", "ok", "0 go_on", "gone lapsed anna",
                  "0 go_on", ("Over", []))
        self.refused(beside, "NoText", "load 0 book anna 3 0 5", "load 0 shut c 0 1", "load 0 book anna 5 0 1", row=0)
        beside.compare()

    def test_bad_rows(self):
        beside = self.full()
        good = "0 go_on / 1 go_on / "
        for row in ("0", "x", "0 undo", "0 call", "0 book anna 11 1 1", "31 go_on", "close a 1 0 0 1", "0 cancel zoe",
                    "close z 0 0 0 1", "", " ", "00 go_on", "0 go_on ", " 0 go_on", "0  go_on", "0 go_on\n",
                    "0 go_on\n1 go_on", "0 go_on/1 go_on", "0 go_on /1 go_on", "0 go_on/ 1 go_on", "/", "log", "load",
                    "load ", "undo 0", "sheet 0", "close 5 0 0 0 1", "\n"):
            self.refused(beside, "NoText", "load " + good + row, "load " + good + row + " / 0 go_on", row=2)
            if row:
                self.refused(beside, "NoText", "load " + row, row=0)
        self.refused(beside, "NoText", "load  / ", "load  / 0 go_on", "load  0 go_on", "load /", row=0)
        self.refused(beside, "NoText", "load 0 go_on /  / 0 go_on", "load 0 go_on / / 0 go_on", "load 0 go_on / ",
                     row=1)
        self.says(beside, "log", "0 book anna 4 1 2 / close d 0 1 0 2 / 0 wait bob 2 1")
        beside.compare()

    def test_without_a_blank_behind_it(self):
        beside = self.full()
        self.refused(beside, "NoRow", "load", "load\n", "load\n0 go_on", "loaded 0 go_on", "Load 0 go_on", " load ",
                     "load0 go_on", "0 load ", "loa d")

    def test_a_long_log(self):
        beside = self.beside(ROOM, 12, 12)
        beside.say("0 book abcdefgh 1 0 12")
        for step in range(300):
            beside.desk.say("0 hold abcdefgh 12")
        log = beside.desk.say("log")
        self.assertGreater(len(log), 4000)
        self.assertEqual(beside.desk.say("load " + log), "ok")
        self.assertEqual(beside.desk.say("log"), log)


class NoRows(Checks):
    def test_what_is_no_text(self):
        beside = self.beside()
        things = [thing for thing in ANYTHING if type(thing) is not str]
        self.refused(beside, "NoRow", *things)
        self.refused(beside, "NoRow", ["log"], ("log",), {"log": 1}, 0, None, True)

    def test_texts(self):
        beside = self.beside()
        self.refused(beside, "NoRow", *[thing for thing in ANYTHING if type(thing) is str])
        self.refused(beside, "NoRow", "", " ", "\n", "0", "0 ", "log ", " log", "log 0", "log\n", "\nlog", "log  ",
                     "log log", "Log", "logs", "book anna 2 0 1", "call", "0 call\n", "0\ncall", "0 call ", " 0 call",
                     "0  call", "0 call 0", "0 undo", "0 close a 0 0 0 1", "0 0 call", "0 log", "a" * 4000,
                     "log" + " " * 3997, "0 cancel " + "a" * 3990 + "\n", "0 book anna 2 0", "0 book anna 2 0 1 1",
                     "0 book Anna 2 0 1", "0 book anna 2 0 01", "00 call", "01 call", "-1 call", "+1 call", "x call",
                     "9" * 61 + " call", "0 cancel " + "9" * 61, "0 cancel " + "0" * 2, "/", " / ", "log / log",
                     "0 call / 0 call", "help", "0 call;", "none", "deeds 0", "order 0 call", "a")

    def test_numbers_and_words_of_questions(self):
        beside = self.beside()
        for word, many in QUESTIONS.items():
            right = [word] + ["1"] * many
            self.assertIs(type(beside.due(" ".join(right))), str if word != "undo" else tuple)
            for other in range(7):
                if other != many:
                    self.refused(beside, "NoRow", " ".join([word] + ["1"] * other))
            for at in range(1, many + 1):
                for wrong in ("01", "00", "-1", "a", "anna", "", "1.0", "9" * 61, "9" * 3900, "+1", "1\n", "A", "0x1",
                              "none", "1,"):
                    self.refused(beside, "NoRow", " ".join(right[:at] + [wrong] + right[at + 1:]))
            row = " ".join(right)
            self.refused(beside, "NoRow", row + " ", " " + row, row + "\n", "\n" + row, row.upper(), row + " 1 1 1 1 1")
            if many:
                self.refused(beside, "NoRow", row.replace(" ", "  ", 1), row.replace(" ", "\n", 1))

    def test_closings(self):
        beside = self.beside()
        self.refused(beside, "NoRow", "close", "close a", "close a 0 0 0", "close a 0 0 0 1 1", "close 5 0 0 0 1",
                     "close A 0 0 0 1", "close a b 0 0 1", "close a 0 0 0 01", "close a 00 0 0 1", "close  a 0 0 0 1",
                     "close a 0 0 0 1 ", " close a 0 0 0 1", "close a 0 0 0 1\n", "close a 0 0 0 " + "9" * 61,
                     "close a_b 0 0 0 1", "close a 0 0 0 b", "close 0 0 0 1", "close a -1 0 0 1", "Close a 0 0 0 1")
        self.says(beside, "close a 0 0 0 1", "yes")

    def test_orders_of_each_word(self):
        beside = self.beside()
        for word, many in WORDS.items():
            for other in range(7):
                row = " ".join(["0", word] + ["zoe"] * other)
                told = beside.say(row)
                self.assertEqual(told == ("NoRow", []), other != many, row)
                if other == many and type(told) is str:
                    beside.say("undo 0")

    def test_rows_otherwise(self):
        chance = random.Random(36)
        seen = {}
        rows = ["0 book anna 4 1 2", "1 walk bob 4 2", "close d 0 1 0 2", "undo 1", "sheet 0", "dealing 0", "now 1",
                "still 0 2", "earliest 0 4 2 1", "late 0", "waiting 0", "log", "1 wait carl 2 1", "1 call", "0 go_on",
                "load 0 go_on / close a 0 1 1 1", "load ", "0 shut a 0 1", "1 cancel anna", "0 come anna"]
        words = list(WORDS) + list(QUESTIONS) + ["load", "close", "0", "1", "2", "31", "9" * 60, "9" * 61, "anna",
                                                 "bob", "a", "d", "z", "", "/"]
        for step in range(60):
            beside = self.beside(ROOM, 3, 1)
            for deed in range(40):
                row = chance.choice(rows)
                if chance.random() < 0.5:
                    row = otherwise(chance, row, words)
                beside.say(row)
            beside.compare()
            seen.update(beside.counts)
        refusals = {told for word, told in seen}
        self.assertLessEqual({"NoRow", "NoDay", "NoAsk", "NoText", "NoDeed", "Taken", "Unknown", "ok", "yes", "none"},
                             refusals)


if __name__ == "__main__":
    unittest.main()
