"""Points [33] and [34] of orders: what is written, which texts are read as one, NoText with row 0."""

import random
import unittest

from chances import DEEDS
from model import WORDS
from seatword.errors import NoText
from seatword.orders import is_order
from seatword.ordertexts import read_order, show_order
from small import is_plain
from texts import is_order_text, order_text, otherwise

NUMBERS = [0, 1, 9, 10, 12, 13, 60, 61, 99, 100, 1000, 10 ** 59, 10 ** 60 - 1, 123456789 * 10 ** 51 + 7]
SMALL = ["a", "z", "anna", "abcdefgh", "abcdefghi", "abcdefghijkl", "zzzzzzzzzzzz", "book", "call", "none", "x" * 100]


class Checks(unittest.TestCase):
    def both_ways(self, order):
        text = show_order(order)
        self.assertEqual(text, order_text(order))
        told = read_order(text)
        self.assertEqual(told, order)
        self.assertEqual([type(part) for part in told], [type(part) for part in order])
        self.assertIs(type(told), tuple)
        self.assertTrue(is_order(told))

    def refused(self, text):
        with self.assertRaises(NoText) as caught:
            read_order(text)
        self.assertIs(type(caught.exception), NoText)
        self.assertEqual(caught.exception.row, 0)
        self.assertFalse(is_order_text(text), text)


class Written(Checks):
    def test_sign_by_sign(self):
        for order, text in ((("book", "anna", 4, 0, 2), "book anna 4 0 2"), (("call",), "call"),
                            (("go_on",), "go_on"), (("give_up", "carl"), "give_up carl"), (("cancel", 5), "cancel 5"),
                            (("shut", "a", 0, 12), "shut a 0 12"), (("hold", 0, "many"), "hold 0 many"),
                            (("cancel", 10 ** 60 - 1), "cancel " + "9" * 60)):
            self.assertEqual(show_order(order), text)
            self.assertEqual(read_order(text), order)

    def test_each_word_with_numbers_and_words_in_each_place(self):
        for word, many in WORDS.items():
            for thing in NUMBERS + SMALL:
                self.both_ways((word,) + (thing,) * many)
                for at in range(many):
                    for other in (0, "b"):
                        things = [other] * many
                        things[at] = thing
                        self.both_ways((word, *things))

    def test_the_deeds_of_an_evening(self):
        for deed in DEEDS:
            self.both_ways(deed)

    def test_by_chance(self):
        chance = random.Random(335)
        for step in range(2000):
            word = chance.choice(list(WORDS))
            self.both_ways((word, *(chance.choice(NUMBERS + SMALL) for thing in range(WORDS[word]))))


class Refused(Checks):
    def test_numbers(self):
        for number in ("00", "01", "007", "0" * 60, "0" + "9" * 59, "1" + "0" * 60, "9" * 61, "9" * 3900, "-1", "+1",
                       "-0", "1.0", "1e3", "1_000", "0x1", "1,000", "1;"):
            self.refused("cancel " + number)
            self.refused("book anna 4 0 " + number)
            self.refused("hold " + number + " 1")

    def test_words(self):
        for word in ("Anna", "ANNA", "annA", "an_na", "an-na", "give_up", "go_on", "anna1", "1anna", "a.", "~", "[]",
                     "'a'", "(a)", "None!", "{a}", "a\tb"):
            self.refused("cancel " + word)
            self.refused("walk " + word + " 1 1")
            self.refused("walk a " + word + " 1")

    def test_blanks_and_line_feeds(self):
        for text in ("cancel  anna", " cancel anna", "cancel anna ", "cancel anna\n", "\ncancel anna", "cancel\nanna",
                     "cancel\n anna", "cancel ", " call", "call ", "call\n", "\ncall", "go_on ", "call\ngo_on", " ",
                     "\n", "", "book anna 4  0 2", "book anna 4 0 2 ", "book anna 4\n0 2", "cancel", "cancel  "):
            self.refused(text)

    def test_too_few_and_too_many(self):
        for word, many in WORDS.items():
            for other in range(8):
                if other != many:
                    self.refused(" ".join([word] + ["1"] * other))
                    self.refused(" ".join([word] + ["a"] * other))

    def test_other_words(self):
        for word in ("undo", "now", "sheet", "dealing", "late", "waiting", "deeds", "close", "log", "load", "order",
                     "Book", "books", "boo", "giveup", "goon", "give", "go", "5", "0", "state", "booK"):
            for many in range(6):
                self.refused(" ".join([word] + ["1"] * many))
        self.refused("close a 0 0 0 1")
        self.refused("0 call")

    def test_long_texts(self):
        self.refused("a" * 4000)
        self.refused("cancel " + "a" * 3992 + "_")
        self.assertEqual(read_order("cancel " + "a" * 3993), ("cancel", "a" * 3993))
        self.refused("call" + " 1" * 1998)

    def test_texts_otherwise(self):
        chance = random.Random(336)
        read = refused = 0
        for step in range(8000):
            word = chance.choice(list(WORDS))
            text = order_text((word, *(chance.choice(NUMBERS + SMALL[:8]) for thing in range(WORDS[word]))))
            for change in range(chance.randint(1, 2)):
                text = otherwise(chance, text, list(WORDS) + ["undo", "", "01", "9" * 61, "Anna", "a", "12"])
            if is_order_text(text):
                told = read_order(text)
                self.assertTrue(is_order(told) and is_plain(told))
                self.assertEqual(show_order(told), text)
                read += 1
            else:
                self.refused(text)
                refused += 1
        self.assertGreater(min(read, refused), 300)


if __name__ == "__main__":
    unittest.main()
