"""Point [29]: deeds that are taken back, and points [24] to [28] by many deeds of all sorts, one behind the other."""

import random
import unittest

from chances import DEEDS, PAIR, some_deed
from great import ALIKE, NAMES, great_room
from model import ASKS, WORDS, Beside, shown, tell
from seatword.errors import NoDeed
from seatword.evenings import Evening
from small import some_room

# Stands and their places: a 4, b 2, c 6, d 4, a b 5, b c 7, a b c 10.
ROOM = (((("a", 4), ("b", 2), ("c", 6)), (("d", 4),)), 1)


class Undo(unittest.TestCase):
    def test_nothing_was_done(self):
        evening = Evening(ROOM, 3, 0)
        for step in range(2):
            with self.assertRaises(NoDeed):
                evening.undo()
        self.assertEqual(shown(evening), (0, (3, (), (), ()), (), [], [], 0))

    def test_each_sort_of_deed_at_once(self):
        beside = Beside(self, PAIR, 4, 1)
        words = set()
        for deed in DEEDS:
            for step in range(2):
                deeds = beside.evening.deeds()
                told = beside.tell(*deed)
                self.assertEqual(beside.evening.deeds(), deeds + 1, (deed, told))
                beside.undo()
                self.assertEqual(beside.evening.deeds(), deeds)
            self.assertEqual(beside.tell(*deed), told)
            words.add(deed[0])
        self.assertEqual(words, set(WORDS))

    def test_all_one_behind_the_other(self):
        beside = Beside(self, PAIR, 4, 1)
        for step in range(3):
            told = [beside.tell(*deed) for deed in DEEDS]
            self.assertEqual(beside.evening.deeds(), len(DEEDS))
            for deed in DEEDS:
                beside.undo()
            beside.undo()
            self.assertEqual(beside.counts["undo", "NoDeed"], step + 1)
            self.assertEqual(shown(beside.evening), (0, (4, (), (), ()), (), [], [], 0))
            self.assertEqual([beside.tell(*deed) for deed in DEEDS], told)
            for deed in DEEDS:
                beside.undo()

    def test_others_are_told_behind_an_undo(self):
        evening, straight = Evening(PAIR, 4, 1), Evening(PAIR, 4, 1)
        for at, deed in enumerate(DEEDS):
            # Some deeds that are taken back leave nothing behind.
            for other in DEEDS[at:] + DEEDS[:at]:
                deeds = evening.deeds()
                tell(evening, other)
                if evening.deeds() > deeds:
                    evening.undo()
                self.assertEqual(shown(evening), shown(straight))
            self.assertEqual(tell(evening, deed), tell(straight, deed))
            self.assertEqual(shown(evening), shown(straight))

    def test_holds_are_taken_back(self):
        for holds, undone, hour in ((0, 0, 2), (1, 0, 4), (1, 1, 2), (2, 1, 4), (3, 1, 6), (3, 3, 2)):
            evening = Evening(ROOM, 12, 1)
            evening.book("anna", 2, 0, 12)
            for step in range(holds):
                evening.hold("anna", 2)
            for step in range(undone):
                evening.undo()
            while evening.late() or evening.now() == 0:
                evening.go_on()
            self.assertEqual(evening.now(), hour)

    def test_a_hold_of_one_that_went_comes_back_with_it(self):
        for deed in (("cancel", "anna"), ("go_on",)):
            evening = Evening(ROOM, 6, 0)
            evening.book("anna", 2, 0, 2)
            evening.hold("anna", 1)
            evening.go_on()
            tell(evening, deed)
            self.assertEqual(evening.sheet()[2], ())
            evening.undo()
            evening.longer("anna", 4)
            self.assertEqual(evening.go_on(), ([], ["anna"]))
            evening.undo()
            evening.hold("anna", 1)
            self.assertEqual(evening.go_on(), ([], []))
            self.assertEqual(evening.go_on(), ([], ["anna"]))

    def test_what_is_no_deed(self):
        beside = Beside(self, PAIR, 2, 0)
        beside.tell("book", "anna", 2, 0, 2)
        beside.tell("wait", "bob", 5, 1)
        before = shown(beside.evening)
        for deed in (("book", "anna", 2, 0, 2), ("book", "zoe", 5, 0, 1), ("change", "anna", 5, 0, 1), ("call",),
                     ("walk", "zoe", 60, 1), ("longer", "anna", 1), ("leave", "anna"), ("unshut", "a", 0, 1),
                     ("cancel", "bob"), ("hold", "anna", 13), ("give_up", "anna"), ("wait", "bob", 5, 1),
                     ("come", "zoe"), ("shut", "c", 0, 1)):
            beside.tell(*deed)
            self.assertEqual(shown(beside.evening), before, deed)
        beside.undo()
        self.assertEqual(beside.evening.waiting(), [])
        beside.undo()
        beside.undo()
        self.assertEqual(beside.counts["undo", "NoDeed"], 1)

    def test_two_hundred_deeds(self):
        evening = Evening(ALIKE, 12, 12)
        shots = []
        for step in range(200):
            shots.append(shown(evening))
            if step % 4 == 0:
                self.assertEqual(evening.book(NAMES[step % 8], 1, step % 12, 1)[0], "yes")
            elif step % 4 == 3:
                evening.cancel(NAMES[(step - 3) % 8])
            else:
                evening.hold(NAMES[step // 4 * 4 % 8], 3)
        self.assertEqual(evening.deeds(), 200)
        for step in range(200):
            evening.undo()
            self.assertEqual(shown(evening), shots.pop())
        with self.assertRaises(NoDeed):
            evening.undo()


class Chances(unittest.TestCase):
    """Deeds of all sorts, most of them such as may be done, told an evening and its model."""

    def live(self, chance, room, hours, deeds, counts):
        beside = Beside(self, room, hours, chance.choice((0, 1, 2, 12)))
        for step in range(deeds):
            if chance.random() < 0.12:
                beside.undo()
            else:
                beside.tell(*some_deed(chance, beside.model))
        while beside.ahead:
            beside.undo()
        for key, many in beside.counts.items():
            counts[key] = counts.get(key, 0) + many

    def test_small_and_great_rooms(self):
        chance = random.Random(71)
        counts = {}
        for step in range(120):
            self.live(chance, some_room(chance), chance.choice((1, 3, 6, 12)), 80, counts)
        for step in range(25):
            self.live(chance, great_room(chance), chance.choice((1, 4, 6, 12)), 150, counts)
        self.check_counts(counts)

    def check_counts(self, counts):
        """That there were some of each answer and of each refusal."""
        refusals = "Unknown Sits Taken NoName NoAsk NoShut Early Over NotSitting NoDeed Full".split()
        self.assertEqual(set(refusals) - {how for word, how in counts}, set())
        for word in WORDS:
            if word in ASKS:
                for how in ("yes", "yes, moved", "no"):
                    self.assertGreater(counts.get((word, how), 0), 0, (word, how))
            elif word != "call":
                self.assertGreater(counts.get((word, "deed"), 0), 5, word)
        for how in ("first", "passed by", "none"):
            self.assertGreater(counts.get(("call", how), 0), 0, how)


if __name__ == "__main__":
    unittest.main()
