"""Points [27] and [28]: who comes, walks in, leaves, waits, and what goes as the hours do."""

import unittest

from great import ALIKE, NAMES
from model import Beside, shown
from things import ANYTHING, NEVER

# Stands and their places: a 4, b 2, c 6, d 4, a b 5, b c 7, a b c 10.
ROOM = (((("a", 4), ("b", 2), ("c", 6)), (("d", 4),)), 1)
PAIR = (((("a", 2), ("b", 4)),), 4)
ONE = (((("a", 4),),), 0)
NO_NUMBERS = [thing for thing in NEVER if not isinstance(thing, int)] + [True, False, 0, -1, 10 ** 59, "2", (1,), [1]]


class Checks(unittest.TestCase):
    def beside(self, room=ROOM, hours=5, grace=1):
        return Beside(self, room, hours, grace)

    def refused(self, beside, refusal, word, *things):
        self.assertEqual(type(beside.tell(word, *things)).__name__, refusal, (word, things))

    def some_of_each(self):
        """Anna is booked, bob sits, carl waits; it is hour 1 of 5."""
        beside = self.beside(grace=5)
        beside.tell("book", "anna", 4, 0, 4)
        beside.tell("walk", "bob", 2, 3)
        beside.tell("wait", "carl", 2, 1)
        beside.tell("go_on")
        return beside

    def check_names(self, word, *more):
        """Unknown of all that is neither booked nor sits."""
        beside = self.some_of_each()
        for name in ANYTHING + ["carl", "zoe", "Anna", "bob "]:
            if name != "anna":
                self.refused(beside, "Unknown", word, name, *more)


class Come(Checks):
    def test_at_its_stand(self):
        beside = self.beside()
        beside.tell("book", "anna", 7, 0, 2)
        self.assertEqual(beside.tell("come", "anna"), ("b", "c"))
        self.assertEqual(beside.evening.sheet()[3], (("anna", ("b", "c")),))
        self.assertEqual(beside.evening.dealing(), (("anna", ("b", "c")),))

    def test_a_late_one(self):
        beside = self.some_of_each()
        self.assertEqual(beside.evening.late(), ["anna"])
        stand = dict(beside.evening.dealing())["anna"]
        self.assertEqual(beside.tell("come", "anna"), stand)
        self.assertEqual(beside.evening.late(), [])
        self.assertEqual(beside.evening.sheet()[2][0], ("anna", 4, 0, 4))

    def test_refusals(self):
        beside = self.beside()
        for begin in (1, 4):
            beside.tell("book", "anna", 4, begin, 1)
            self.refused(beside, "Early", "come", "anna")
            beside.tell("cancel", "anna")
        beside.tell("book", "anna", 4, 1, 1)
        beside.tell("go_on")
        beside.tell("come", "anna")
        self.refused(beside, "Sits", "come", "anna")
        self.check_names("come")


class Walk(Checks):
    def test_yes_with_its_stand(self):
        beside = self.beside()
        self.assertEqual(beside.tell("walk", "anna", 10, 2), ("yes", [], ("a", "b", "c")))
        self.assertEqual(beside.evening.sheet(), (5, (), (("anna", 10, 0, 2),), (("anna", ("a", "b", "c")),)))
        self.refused(beside, "Sits", "come", "anna")
        beside.tell("go_on")
        self.assertEqual(beside.tell("walk", "bob", 4, 4), ("yes", [], ("d",)))
        self.assertEqual(beside.evening.sheet()[2][1], ("bob", 4, 1, 4))

    def test_yes_with_moved_ones(self):
        beside = self.beside(PAIR, 2, 1)
        beside.tell("shut", "a", 0, 1)
        beside.tell("book", "anna", 2, 0, 2)
        beside.tell("go_on")
        self.assertEqual(beside.evening.dealing(), (("anna", ("b",)),))
        self.assertEqual(beside.tell("walk", "bob", 3, 1), ("yes", ["anna"], ("b",)))

    def test_no(self):
        beside = self.beside(PAIR, 2, 1)
        beside.tell("walk", "anna", 3, 2)
        self.assertEqual(beside.tell("walk", "bob", 3, 1)[0], "no")
        self.assertEqual(beside.tell("walk", "bob", 5, 1)[0], "no")
        self.assertEqual(beside.evening.deeds(), 1)

    def test_refusals(self):
        beside = self.some_of_each()
        for name in NEVER + ["Anna", 3]:
            self.refused(beside, "NoName", "walk", name, 2, 1)
        for name in ("anna", "bob", "carl"):
            self.refused(beside, "Taken", "walk", name, 2, 1)
        for thing in NO_NUMBERS + [61]:
            self.refused(beside, "NoAsk", "walk", "zoe", thing, 1)
            self.refused(beside, "NoAsk", "walk", "zoe", 2, thing)
        self.refused(beside, "NoAsk", "walk", "zoe", 2, 5)
        self.assertEqual(beside.tell("walk", "zoe", 2, 4)[0], "yes")


class Leave(Checks):
    def test_it_goes(self):
        beside = self.some_of_each()
        before = dict(beside.evening.dealing())
        self.assertIsNone(beside.tell("leave", "bob"))
        self.assertEqual(beside.evening.sheet()[2:], ((("anna", 4, 0, 4),), ()))
        self.assertEqual(beside.evening.dealing(), (("anna", before["anna"]),))
        self.assertEqual(beside.tell("walk", "bob", 1, 1)[0], "yes")

    def test_refusals(self):
        beside = self.some_of_each()
        self.refused(beside, "NotSitting", "leave", "anna")
        beside.tell("leave", "bob")
        self.refused(beside, "Unknown", "leave", "bob")
        self.check_names("leave")


class Longer(Checks):
    def test_one_booked_and_one_sitting(self):
        beside = self.some_of_each()
        self.assertEqual(beside.tell("longer", "anna", 1), ("yes", []))
        self.assertEqual(beside.tell("longer", "bob", 2), ("yes", []))
        self.assertEqual(beside.evening.sheet()[2], (("anna", 4, 0, 5), ("bob", 2, 0, 5)))
        self.assertEqual([name for name, stand in beside.evening.sheet()[3]], ["bob"])

    def test_to_the_last_hour_and_one_beyond(self):
        for name, most in (("anna", 1), ("bob", 2)):
            beside = self.some_of_each()
            self.refused(beside, "NoAsk", "longer", name, most + 1)
            self.assertEqual(beside.tell("longer", name, most)[0], "yes")
            self.refused(beside, "NoAsk", "longer", name, 1)

    def test_the_party_itself_is_counted_and_told(self):
        # Bob has table a from hour 1 on, so anna has to leave it.
        beside = self.beside(PAIR, 2, 0)
        beside.tell("shut", "b", 0, 1)
        beside.tell("book", "anna", 2, 0, 1)
        beside.tell("unshut", "b", 0, 1)
        beside.tell("shut", "b", 1, 1)
        beside.tell("walk", "bob", 3, 1)
        beside.tell("book", "carl", 2, 1, 1)
        beside.tell("unshut", "b", 1, 1)
        self.assertEqual(beside.evening.dealing(), (("anna", ("a",)), ("bob", ("b",)), ("carl", ("a",))))
        word, moved = beside.tell("longer", "anna", 1)
        self.assertEqual((word, moved), ("yes", ["carl"]))
        beside = self.beside(PAIR, 2, 0)
        beside.tell("shut", "a", 1, 1)
        beside.tell("shut", "b", 0, 1)
        beside.tell("book", "anna", 2, 0, 1)
        beside.tell("unshut", "b", 0, 1)
        self.assertEqual(beside.tell("longer", "anna", 1), ("yes", ["anna"]))

    def test_one_that_sits_keeps_its_table(self):
        beside = self.beside(PAIR, 2, 0)
        beside.tell("shut", "b", 0, 1)
        beside.tell("walk", "anna", 2, 1)
        beside.tell("unshut", "b", 0, 1)
        beside.tell("shut", "a", 1, 1)
        self.assertEqual(beside.tell("longer", "anna", 1), ("no", ("seat", "anna")))
        beside.tell("unshut", "a", 1, 1)
        beside.tell("book", "bob", 2, 1, 1)
        self.assertEqual(beside.tell("longer", "anna", 1)[0], "yes")

    def test_refusals(self):
        self.check_names("longer", 1)
        self.check_names("longer", None)
        for name in ("anna", "bob"):
            beside = self.some_of_each()
            for thing in NO_NUMBERS + [5, 10 ** 60 - 1]:
                self.refused(beside, "NoAsk", "longer", name, thing)


class Hold(Checks):
    def lapses_at(self, *deeds):
        """The hour at which anna, booked for all of twelve hours with a grace of 2, lapses, or None."""
        beside = self.beside(ROOM, 12, 2)
        beside.tell("book", "anna", 2, 0, 12)
        for deed in deeds:
            beside.tell(*deed)
        while beside.evening.now() < 11:
            if "anna" in beside.tell("go_on")[1]:
                return beside.evening.now()
        return None

    def test_holds_add_up(self):
        self.assertEqual(self.lapses_at(), 3)
        self.assertEqual(self.lapses_at(("hold", "anna", 1)), 4)
        self.assertEqual(self.lapses_at(("hold", "anna", 2), ("hold", "anna", 3)), 8)
        self.assertEqual(self.lapses_at(("hold", "anna", 8)), 11)
        self.assertIsNone(self.lapses_at(("hold", "anna", 12)))
        self.assertIsNone(self.lapses_at(("hold", "anna", 12), ("hold", "anna", 12)))

    def test_behind_a_change(self):
        self.assertEqual(self.lapses_at(("hold", "anna", 3), ("change", "anna", 5, 1, 11)), 7)
        self.assertEqual(self.lapses_at(("change", "anna", 5, 1, 11), ("hold", "anna", 3)), 7)
        self.assertEqual(self.lapses_at(("hold", "anna", 3), ("change", "anna", 5, 0, 3)), 3)

    def test_only_as_long_as_it_is_there(self):
        self.assertEqual(self.lapses_at(("hold", "anna", 3), ("cancel", "anna"), ("book", "anna", 2, 0, 12)), 3)
        beside = self.beside(ROOM, 12, 0)
        beside.tell("book", "anna", 2, 0, 12)
        beside.tell("hold", "anna", 5)
        beside.tell("come", "anna")
        beside.tell("leave", "anna")
        beside.tell("book", "anna", 2, 0, 12)
        self.assertEqual(beside.tell("go_on"), ([], ["anna"]))
        beside.tell("book", "anna", 2, 1, 1)
        beside.tell("hold", "anna", 5)
        self.assertEqual(beside.tell("go_on"), ([], ["anna"]))
        beside.tell("book", "anna", 2, 2, 5)
        self.assertEqual(beside.tell("go_on"), ([], ["anna"]))

    def test_of_one_party_alone(self):
        beside = self.beside(ROOM, 12, 0)
        for name in NAMES[:3]:
            beside.tell("book", name, 2, 0, 12)
        beside.tell("hold", "bob", 1)
        self.assertEqual(beside.tell("go_on"), ([], ["anna", "carl"]))
        self.assertEqual(beside.tell("go_on"), ([], ["bob"]))

    def test_it_tells_none_and_moves_nobody(self):
        beside = self.some_of_each()
        before = shown(beside.evening)
        self.assertIsNone(beside.tell("hold", "anna", 12))
        self.assertEqual(shown(beside.evening)[:-1], before[:-1])
        self.assertEqual(beside.evening.deeds(), before[-1] + 1)

    def test_refusals(self):
        self.check_names("hold", 1)
        self.check_names("hold", None)
        beside = self.some_of_each()
        self.refused(beside, "Sits", "hold", "bob", 1)
        self.refused(beside, "Sits", "hold", "bob", 0)
        for thing in NO_NUMBERS + [13]:
            self.refused(beside, "NoAsk", "hold", "anna", thing)


class Wait(Checks):
    def test_last_of_the_line(self):
        beside = self.beside()
        for name, guests, stay in (("carl", 60, 5), ("anna", 1, 1), ("bob", 3, 2)):
            self.assertIsNone(beside.tell("wait", name, guests, stay))
        self.assertEqual(beside.evening.waiting(), [("carl", 60, 5), ("anna", 1, 1), ("bob", 3, 2)])
        self.assertEqual(beside.evening.sheet()[2], ())
        self.assertIsNone(beside.tell("give_up", "anna"))
        self.assertEqual(beside.evening.waiting(), [("carl", 60, 5), ("bob", 3, 2)])
        beside.tell("wait", "anna", 2, 2)
        self.assertEqual(beside.evening.waiting()[2], ("anna", 2, 2))

    def test_eight_and_a_ninth(self):
        beside = self.beside()
        for name in NAMES:
            beside.tell("wait", name, 2, 1)
        self.refused(beside, "Full", "wait", "zoe", 2, 1)
        self.refused(beside, "NoAsk", "wait", "zoe", 2, 6)
        self.refused(beside, "Taken", "wait", "anna", None, None)
        self.refused(beside, "NoName", "wait", "", None, None)
        # Those that wait are no parties.
        self.assertEqual(beside.tell("book", "zoe", 2, 0, 1)[0], "yes")
        beside.tell("give_up", "dora")
        self.assertIsNone(beside.tell("wait", "yves", 2, 1))

    def test_eight_parties_are_no_hindrance(self):
        beside = self.beside(ALIKE, 2, 0)
        for name in NAMES:
            beside.tell("book", name, 1, 0, 1)
        self.assertIsNone(beside.tell("wait", "zoe", 1, 1))

    def test_refusals(self):
        beside = self.some_of_each()
        for name in NEVER + ["Anna", 3]:
            self.refused(beside, "NoName", "wait", name, 2, 1)
        for name in ("anna", "bob", "carl"):
            self.refused(beside, "Taken", "wait", name, 2, 1)
        for thing in NO_NUMBERS + [61]:
            self.refused(beside, "NoAsk", "wait", "zoe", thing, 1)
            self.refused(beside, "NoAsk", "wait", "zoe", 2, thing)
        self.refused(beside, "NoAsk", "wait", "zoe", 2, 5)
        self.assertIsNone(beside.tell("wait", "zoe", 2, 4))

    def test_give_up_of_those_that_do_not_wait(self):
        beside = self.some_of_each()
        for name in ANYTHING + ["anna", "bob", "zoe"]:
            self.refused(beside, "Unknown", "give_up", name)
        self.assertIsNone(beside.tell("give_up", "carl"))
        self.refused(beside, "Unknown", "give_up", "carl")


class Call(Checks):
    def test_nobody_waits(self):
        beside = self.beside()
        self.assertIsNone(beside.tell("call"))
        self.assertEqual(beside.evening.deeds(), 0)

    def test_the_first_that_would_be_said_yes_to(self):
        beside = self.beside(PAIR, 3, 0)
        beside.tell("walk", "dora", 3, 2)
        for row in (("carl", 3, 1), ("anna", 2, 3), ("bob", 1, 1)):
            beside.tell("wait", *row)
        self.assertEqual(beside.tell("call"), ("anna", [], ("a",)))
        self.assertEqual(beside.evening.waiting(), [("carl", 3, 1), ("bob", 1, 1)])
        self.assertEqual(beside.evening.sheet()[2:], ((("anna", 2, 0, 3), ("dora", 3, 0, 2)),
                                                      (("anna", ("a",)), ("dora", ("b",)))))
        self.assertIsNone(beside.tell("call"))
        deeds = beside.evening.deeds()
        self.assertIsNone(beside.tell("call"))
        self.assertEqual(beside.evening.deeds(), deeds)
        beside.tell("leave", "dora")
        self.assertEqual(beside.tell("call"), ("carl", [], ("b",)))

    def test_it_moves_those_that_are_booked(self):
        beside = self.beside(PAIR, 2, 1)
        beside.tell("shut", "a", 0, 1)
        beside.tell("book", "anna", 2, 0, 2)
        beside.tell("wait", "bob", 3, 1)
        beside.tell("go_on")
        self.assertEqual(beside.tell("call"), ("bob", ["anna"], ("b",)))

    def test_a_stay_beyond_the_hours_by_now(self):
        beside = self.beside(ONE, 3, 0)
        beside.tell("wait", "anna", 1, 3)
        beside.tell("wait", "bob", 1, 2)
        beside.tell("go_on")
        self.assertEqual(beside.tell("call"), ("bob", [], ("a",)))
        self.assertEqual(beside.evening.waiting(), [("anna", 1, 3)])
        beside.tell("leave", "bob")
        self.assertIsNone(beside.tell("call"))

    def test_eight_parties_are_there(self):
        beside = self.beside(ALIKE, 2, 0)
        for name in NAMES:
            beside.tell("book", name, 1, 1, 1)
        beside.tell("wait", "zoe", 1, 1)
        self.assertIsNone(beside.tell("call"))
        beside.tell("cancel", "anna")
        self.assertEqual(beside.tell("call")[0], "zoe")

    def test_the_name_is_taken_behind_it_and_free_in_the_line(self):
        beside = self.beside(ONE, 2, 0)
        beside.tell("wait", "anna", 1, 1)
        beside.tell("call")
        self.refused(beside, "Taken", "wait", "anna", 1, 1)
        self.refused(beside, "Unknown", "give_up", "anna")
        self.refused(beside, "Sits", "come", "anna")


class GoOn(Checks):
    def test_who_is_gone_and_who_lapsed(self):
        beside = self.beside(ALIKE, 5, 1)
        for name, begin, stay in (("gerd", 0, 1), ("finn", 0, 2), ("anna", 0, 1), ("bob", 0, 5), ("carl", 1, 2),
                                  ("dora", 0, 3), ("emil", 0, 1)):
            beside.tell("book", name, 1, begin, stay)
        for name in ("gerd", "finn", "emil"):
            beside.tell("come", name)
        self.assertEqual(beside.tell("go_on"), (["emil", "gerd"], ["anna"]))
        self.assertEqual(beside.evening.late(), ["bob", "dora"])
        self.assertEqual(beside.tell("go_on"), (["finn"], ["bob", "dora"]))
        self.assertEqual(beside.evening.late(), ["carl"])
        self.assertEqual(beside.tell("go_on"), ([], ["carl"]))
        self.assertEqual(beside.tell("go_on"), ([], []))
        self.assertEqual(beside.evening.sheet(), (5, (), (), ()))

    def test_no_grace_and_much_of_it(self):
        for grace, told in ((0, ([], ["anna"])), (1, ([], [])), (12, ([], []))):
            beside = self.beside(ROOM, 3, grace)
            beside.tell("book", "anna", 2, 0, 3)
            self.assertEqual(beside.tell("go_on"), told)
        beside = self.beside(ROOM, 3, 12)
        beside.tell("book", "anna", 2, 0, 2)
        self.assertEqual(beside.tell("go_on"), ([], []))
        self.assertEqual(beside.tell("go_on"), ([], ["anna"]))

    def test_who_is_not_due_yet_does_not_lapse(self):
        beside = self.beside(ROOM, 3, 0)
        beside.tell("book", "anna", 2, 1, 1)
        beside.tell("book", "bob", 2, 2, 1)
        self.assertEqual(beside.tell("go_on"), ([], []))
        self.assertEqual(beside.evening.late(), [])
        self.assertEqual(beside.tell("go_on"), ([], ["anna"]))

    def test_who_sits_does_not_lapse(self):
        beside = self.beside(ROOM, 4, 0)
        beside.tell("walk", "anna", 2, 3)
        for told in (([], []), ([], []), (["anna"], [])):
            self.assertEqual(beside.tell("go_on"), told)

    def test_shuts_that_go(self):
        beside = self.beside(ROOM, 4, 0)
        shuts = [("a", 0, 1), ("b", 0, 2), ("a", 1, 1), ("c", 3, 1), ("a", 0, 1)]
        for shut in shuts:
            beside.tell("shut", *shut)
        beside.tell("go_on")
        self.assertEqual(beside.evening.sheet()[1], tuple(shuts[1:4]))
        beside.tell("go_on")
        self.assertEqual(beside.evening.sheet()[1], (("c", 3, 1),))

    def test_the_line_stays(self):
        beside = self.beside(ROOM, 3, 0)
        for row in (("anna", 2, 3), ("bob", 2, 1)):
            beside.tell("wait", *row)
        beside.tell("go_on")
        beside.tell("go_on")
        self.assertEqual(beside.evening.waiting(), [("anna", 2, 3), ("bob", 2, 1)])

    def test_over(self):
        beside = self.beside(ROOM, 1, 0)
        beside.tell("walk", "anna", 2, 1)
        self.refused(beside, "Over", "go_on")
        beside = self.beside(ROOM, 3, 12)
        beside.tell("book", "anna", 2, 0, 3)
        beside.tell("walk", "bob", 2, 3)
        beside.tell("go_on")
        beside.tell("go_on")
        self.assertEqual(beside.evening.now(), 2)
        self.refused(beside, "Over", "go_on")
        self.assertEqual([party[0] for party in beside.evening.sheet()[2]], ["anna", "bob"])

    def test_nobody_is_moved(self):
        beside = self.beside(ALIKE, 3, 0)
        for name in NAMES:
            beside.tell("book", name, 1, 0 if name < "dora" else 1, 1)
        before = dict(beside.evening.dealing())
        beside.tell("go_on")
        self.assertEqual(beside.evening.dealing(), tuple((name, before[name]) for name in NAMES[3:]))


if __name__ == "__main__":
    unittest.main()
