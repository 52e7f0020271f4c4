"""Point [30]: what is an order, and an order done to an evening."""

import random
import unittest

from chances import DEEDS, PAIR, some_deed
from great import great_room
from model import WORDS, Beside, refusal_of, shown, tell
from seatword.errors import SeatError
from seatword.evenings import Evening
from seatword.orders import do_order, is_order
from small import some_room
from things import ANYTHING, NEVER, nested, as_tuple

OTHER_METHODS = ["undo", "now", "sheet", "dealing", "late", "waiting", "deeds", "state", "settle", "walk_in", "order",
                 "close", "log", "say", "__init__", "give up", "giveup", "go on", "goon", "Book", "book ", ""]


def done(evening, order):
    """What the order tells, or the class of the refusal and its fields."""
    try:
        return do_order(evening, order)
    except SeatError as refused:
        return refusal_of(refused)


class IsOrder(unittest.TestCase):
    def test_each_word_with_as_many_things(self):
        self.assertEqual(len(WORDS), 14)
        for word, many in WORDS.items():
            for thing in [None, 1, "anna", [], {}, (), True]:
                self.assertIs(is_order((word,) + (thing,) * many), True, word)
                self.assertIs(is_order((word,) + (thing,) * (many + 1)), False, word)
                if many > 0:
                    self.assertIs(is_order((word,) + (thing,) * (many - 1)), False, word)

    def test_things_of_anything(self):
        for thing in ANYTHING:
            self.assertIs(is_order(("cancel", thing)), True)
            self.assertIs(is_order(("book", thing, thing, thing, thing)), True)
            self.assertIs(is_order(("call", thing)), False)

    def test_other_words(self):
        for word in OTHER_METHODS:
            for many in range(6):
                self.assertIs(is_order((word,) + (1,) * many), False, (word, many))

    def test_lists_and_texts_in_place_of_the_tuple(self):
        for word, many in WORDS.items():
            order = (word,) + (1,) * many
            for thing in (list(order), " ".join(str(part) for part in order), {word: order[1:]}, (order,), [order],
                          (list(order),), (word, list(order[1:])) if many != 1 else [order]):
                self.assertIs(is_order(thing), False, thing)

    def test_no_text_in_the_first_place(self):
        for thing in [0, 1, None, True, False, [], ["book"], ("book",), {"book": 4}, {}, 10 ** 59]:
            for many in range(6):
                self.assertIs(is_order((thing,) + (1,) * many), False)

    def test_anything(self):
        for thing in NEVER + [(), (()), nested(as_tuple, 40), ("book",) * 2000, ("book",) * 4, (None,) * 5, "call",
                              ("call", None), [], ["call"], ["go_on"]]:
            self.assertIs(is_order(thing), False)
        self.assertIs(is_order(("book",) * 5), True)
        self.assertIs(is_order(("call",)), True)
        self.assertIs(is_order(("go_on",)), True)

    def test_what_is_asked_is_not_changed(self):
        thing = ("cancel", ["anna", {"a": [1]}])
        is_order(thing)
        self.assertEqual(thing, ("cancel", ["anna", {"a": [1]}]))


class DoOrder(unittest.TestCase):
    def both(self, one, other, deed):
        """The method of one, the order of the other: answers, refusals and all that is shown."""
        told, by_order = tell(one, deed), done(other, deed)
        self.assertEqual(by_order, told, deed)
        self.assertIs(type(by_order), type(told))
        self.assertEqual(shown(other), shown(one))
        return told

    def test_each_word_is_a_deed(self):
        one, other = Evening(PAIR, 4, 1), Evening(PAIR, 4, 1)
        for deed in DEEDS:
            deeds = other.deeds()
            self.both(one, other, deed)
            self.assertEqual(other.deeds(), deeds + 1, deed)
        self.assertEqual({deed[0] for deed in DEEDS}, set(WORDS))
        for deed in DEEDS:
            one.undo()
            other.undo()
            self.assertEqual(shown(other), shown(one))

    def test_what_each_word_tells(self):
        evening = Evening(PAIR, 4, 1)
        self.assertEqual(done(evening, ("book", "anna", 2, 0, 2)), ("yes", []))
        self.assertEqual(done(evening, ("walk", "bob", 3, 1)), ("yes", [], ("b",)))
        self.assertEqual(done(evening, ("walk", "carl", 3, 1))[0], "no")
        self.assertEqual(done(evening, ("come", "anna")), ("a",))
        self.assertIsNone(done(evening, ("call",)))
        self.assertEqual(done(evening, ("go_on",)), (["bob"], []))
        self.assertIsNone(done(evening, ("wait", "carl", 4, 1)))
        self.assertEqual(done(evening, ("call",)), ("carl", [], ("b",)))
        self.assertEqual(done(evening, ("cancel", ["x"])), ("Unknown", [("name", ["x"])]))
        self.assertEqual(done(evening, ("hold", "anna", 1)), ("Sits", [("name", "anna")]))

    def test_each_refusal(self):
        one, other = Evening(PAIR, 2, 1), Evening(PAIR, 2, 1)
        for deed in (("book", "anna", 2, 0, 2), ("walk", "bob", 1, 1), ("wait", "carl", 1, 1),
                     ("book", "dora", 2, 1, 1)):
            self.both(one, other, deed)
        refusals = set()
        for word, many in WORDS.items():
            for thing in ANYTHING + ["anna", "bob", "carl", "dora", "zoe", "a"]:
                for deed in ((word,) + (thing,) * many, (word, "zoe", thing, 1, 1)[:many + 1],
                             (word, "a", thing, 1, 1)[:many + 1], (word, "anna", thing, 1, 1)[:many + 1]):
                    told = self.both(one, other, deed)
                    refusals.add(str(told and told[0]))
                    while other.deeds() > 4:
                        one.undo()
                        other.undo()
        self.assertLessEqual({"NoName", "Taken", "Unknown", "NoAsk", "Sits", "NotSitting", "NoShut", "Early"},
                             refusals)

    def test_by_chance(self):
        chance = random.Random(301)
        words = {}
        for step in range(30):
            room = some_room(chance) if step % 3 else great_room(chance)
            hours, grace = chance.choice((1, 3, 6, 12)), chance.choice((0, 1, 2, 12))
            beside, other = Beside(self, room, hours, grace), Evening(room, hours, grace)
            for deed in range(60):
                order = some_deed(chance, beside.model, 0.25)
                told = beside.tell(*order)
                self.assertEqual(done(other, order), refusal_of(told) if isinstance(told, SeatError) else told)
                self.assertEqual(shown(other), shown(beside.evening))
                words[order[0]] = words.get(order[0], 0) + 1
        self.assertEqual(set(words), set(WORDS))

    def test_what_is_handed_in_stays(self):
        evening = Evening(PAIR, 2, 1)
        order = ("book", ["anna"], {"a": [1]}, (0,), [1])
        done(evening, order)
        self.assertEqual(order, ("book", ["anna"], {"a": [1]}, (0,), [1]))


if __name__ == "__main__":
    unittest.main()
