"""Points [31] and [32], and [2], [3], [4] of houses: days, closings, what is taken back, the log."""

import random
import unittest

from chances import DEEDS, PAIR
from great import ALIKE, NAMES, great_room
from housemodel import DAYS, HouseBeside, shown_house, some_step, told_by
from model import WORDS
from seatword import errors
from seatword.houses import House
from seatword.papers import bars
from small import some_room
from things import ANYTHING, NEVER

# Stands and their places: a 4, b 2, c 6, d 4, a b 5, b c 7, a b c 10.
ROOM = (((("a", 4), ("b", 2), ("c", 6)), (("d", 4),)), 1)
ONE = (((("a", 4),),), 0)
# Nothing of this is a day.
NO_DAYS = NEVER + [31, 32, 60, -1, -31, 10 ** 59, True, False, "0", "30", (0,), [0], {0: 0}, "anna", ()]
READERS = ("now", "sheet", "dealing", "late", "waiting")


class Checks(unittest.TestCase):
    def beside(self, room=ROOM, hours=5, grace=1):
        return HouseBeside(self, room, hours, grace)

    def refused(self, house, refusal, word, *things, **fields):
        before = shown_house(house)
        self.assertEqual(told_by(house, word, *things), (refusal, sorted(fields.items())), (word, things))
        self.assertEqual(shown_house(house), before)


class Days(Checks):
    def test_each_method_stands_in_the_class_itself(self):
        for word in ("__init__", "order", "close", "undo", "log") + READERS:
            self.assertIn(word, vars(House))

    def test_nothing_is_done_at_first(self):
        for hours in (1, 12):
            house = House(ROOM, hours, 0)
            self.assertEqual(shown_house(house), ([(0, (hours, (), (), ()), (), [], [])] * DAYS, []))

    def test_days_stand_apart(self):
        beside = self.beside()
        for day in (0, 30, 7):
            self.assertEqual(beside.order(day, "book", "anna", 10, 0, 5), ("yes", []))
        beside.order(30, "go_on")
        beside.order(7, "cancel", "anna")
        house = beside.house
        self.assertEqual([house.now(day) for day in (0, 7, 30)], [0, 0, 1])
        self.assertEqual([len(house.sheet(day)[2]) for day in (0, 7, 30, 8)], [1, 0, 1, 0])
        self.assertEqual([house.late(day) for day in (0, 30)], [[], ["anna"]])

    def test_no_day(self):
        house = House(ROOM, 5, 1)
        house.order(0, ("book", "anna", 2, 0, 5))
        for day in NO_DAYS:
            for word in READERS + ("undo",):
                self.refused(house, "NoDay", word, day)
            self.refused(house, "NoDay", "order", day, ("call",))
            # Ahead of NoOrder, and of what the evening refuses.
            self.refused(house, "NoDay", "order", day, ("undo",))
            self.refused(house, "NoDay", "order", day, None)
            self.refused(house, "NoDay", "order", day, ("cancel", "zoe"))
            self.refused(house, "NoDay", "close", "a", day, 30, 0, 1)
            self.refused(house, "NoDay", "close", "a", 0, day, 0, 1)
            self.refused(house, "NoDay", "close", None, day, day, None, None)

    def test_each_day_from_first_to_last(self):
        beside = self.beside(PAIR, 4, 1)
        for day in range(DAYS):
            for deed in DEEDS[:4 + day % 3]:
                beside.order(day, *deed)
        self.assertEqual([deed[0] for deed in beside.house.log()][-5:], [29] + [30] * 4)

    def test_no_order(self):
        house = House(ROOM, 5, 1)
        things = [thing for thing in ANYTHING] + [("undo",), ("now",), ("close", "a", 0, 0, 0, 1), ["call"], "call",
                                                  ("call", 1), ("book", "anna", 2, 0), ("cancel",), (("call",),)]
        for thing in things:
            for day in (0, 30):
                self.refused(house, "NoOrder", "order", day, thing)
        self.refused(house, "Unknown", "order", 0, ("cancel", ["anna"]), name=["anna"])

    def test_as_the_evening_refuses(self):
        house = House(ONE, 2, 0)
        house.order(3, ("book", "anna", 2, 1, 1))
        house.order(3, ("wait", "bob", 2, 1))
        self.refused(house, "NoName", "order", 3, ("book", "Anna", 2, 0, 1))
        self.refused(house, "Taken", "order", 3, ("book", "bob", 2, 0, 1), name="bob")
        self.refused(house, "Unknown", "order", 4, ("cancel", "anna"), name="anna")
        self.refused(house, "NoAsk", "order", 3, ("hold", "anna", True))
        self.refused(house, "NotSitting", "order", 3, ("leave", "anna"), name="anna")
        self.refused(house, "NoShut", "order", 3, ("unshut", "a", 0, 1))
        self.refused(house, "Early", "order", 3, ("come", "anna"), hour=1)
        house.order(3, ("go_on",))
        self.refused(house, "Over", "order", 3, ("go_on",))
        house.order(3, ("come", "anna"))
        self.refused(house, "Sits", "order", 3, ("cancel", "anna"), name="anna")

    def test_full_on_one_day_alone(self):
        house = House(ALIKE, 2, 0)
        for name in NAMES:
            house.order(5, ("book", name, 1, 0, 1))
        self.refused(house, "Full", "order", 5, ("book", "zoe", 1, 1, 1))
        self.assertEqual(house.order(6, ("book", "zoe", 1, 1, 1)), ("yes", []))


class Closings(Checks):
    def test_over_one_day_several_and_all(self):
        for first, last in ((0, 0), (30, 30), (3, 5), (0, 30), (29, 30)):
            beside = self.beside()
            rows = [(day, []) for day in range(first, last + 1)]
            self.assertEqual(beside.close("b", first, last, 1, 2), ("yes", rows))
            for day in range(DAYS):
                self.assertEqual(beside.house.sheet(day)[1], (("b", 1, 2),) if first <= day <= last else ())
            self.assertEqual(beside.house.log(), [("close", "b", first, last, 1, 2)])

    def test_first_behind_last(self):
        beside = self.beside()
        for first, last in ((1, 0), (30, 0), (30, 29), (31, 30), (5, 4)):
            self.assertEqual(beside.close("a", first, last, 0, 1), ("NoDay", []))
            # Ahead of NoAsk.
            self.assertEqual(beside.close("zoe", first, last, 0, 9), ("NoDay", []))

    def test_moved_ones_day_by_day(self):
        beside = self.beside(PAIR, 3, 0)
        for day in (3, 5):
            beside.order(day, "book", "anna", 2, 0, 3)
        beside.order(5, "book", "bob", 2, 0, 1)
        table = dict(beside.house.dealing(3))["anna"][0]
        told = beside.close(table, 2, 4, 2, 1)
        self.assertEqual(told, ("yes", [(2, []), (3, ["anna"]), (4, [])]))

    def test_a_no_changes_nothing_on_any_day(self):
        beside = self.beside(PAIR, 3, 0)
        beside.order(4, "book", "anna", 2, 0, 2)
        table = dict(beside.house.dealing(4))["anna"][0]
        for day in (6, 7):
            beside.order(day, "book", "anna", 3, 0, 3)
            beside.order(day, "book", "bob", 2, 0, 3)
        before = shown_house(beside.house)
        for first in (0, 3, 4, 6):
            told = beside.close(table, first, 9, 1, 1)
            self.assertEqual(told[:2], ("no", 6))
            sheet = (3, ((table, 1, 1),), (("anna", 3, 0, 3), ("bob", 2, 0, 3)), ())
            self.assertTrue(bars(PAIR, sheet, (), None, told[2]))
        self.assertEqual(shown_house(beside.house), before)
        self.assertEqual(beside.close(table, 7, 7, 1, 1)[:2], ("no", 7))
        self.assertEqual(beside.close(table, 3, 5, 1, 1), ("yes", [(3, []), (4, ["anna"]), (5, [])]))

    def test_who_sits_is_not_moved(self):
        beside = self.beside(PAIR, 3, 0)
        stand = beside.order(9, "walk", "anna", 2, 2)[2]
        told = beside.close(stand[0], 8, 10, 1, 1)
        self.assertEqual(told, ("no", 9, ("seat", "anna")))
        self.assertEqual(beside.close(stand[0], 8, 10, 2, 1)[0], "yes")

    def test_no_ask(self):
        beside = self.beside()
        for table in NEVER + ["z", "ab", ("a",), "", 0]:
            self.assertEqual(beside.close(table, 0, 3, 0, 1), ("NoAsk", []))
        for span in ((0, 6), (5, 1), (4, 2), (0, 0), (-1, 1), (True, 1), (0, True), ("0", 1), (0, None), ([0], 1),
                     (0, 10 ** 59), (10 ** 59, 1)):
            self.assertEqual(beside.close("a", 0, 3, *span), ("NoAsk", []))
        self.assertEqual(beside.close("a", 0, 3, 0, 5)[0], "yes")

    def test_a_begin_ahead_of_some_days_hour(self):
        beside = self.beside()
        beside.order(4, "go_on")
        beside.order(4, "go_on")
        for first, last, begin, told in ((0, 3, 0, "yes"), (3, 5, 1, "NoAsk"), (4, 4, 0, "NoAsk"), (3, 5, 2, "yes"),
                                         (0, 30, 1, "NoAsk"), (5, 30, 0, "yes"), (0, 4, 1, "NoAsk")):
            self.assertEqual(beside.close("a", first, last, begin, 1)[0], told, (first, last, begin))

    def test_full(self):
        beside = self.beside()
        for step in range(12):
            beside.order(6, "shut", "d", step % 5, 1)
        beside.order(8, "go_on")
        for first, last, begin, told in ((6, 6, 1, "Full"), (5, 7, 1, "Full"), (0, 30, 1, "Full"), (0, 5, 0, "yes"),
                                         # NoAsk on a later day, Full on an earlier one.
                                         (6, 8, 0, "NoAsk"), (0, 30, 0, "NoAsk"), (6, 7, 0, "Full"), (7, 8, 1, "yes")):
            self.assertEqual(beside.close("a", first, last, begin, 1)[0], told, (first, last, begin))
        self.assertEqual(beside.close("zoe", 6, 6, 0, 1), ("NoAsk", []))
        self.assertEqual(beside.close("zoe", 6, 5, 0, 1), ("NoDay", []))
        beside.order(6, "unshut", "d", 0, 1)
        self.assertEqual(beside.close("a", 5, 7, 1, 1)[0], "yes")
        self.assertEqual(beside.close("a", 5, 7, 1, 1), ("Full", []))

    def test_full_goes_ahead_of_a_no(self):
        beside = self.beside(ONE, 2, 0)
        beside.order(2, "book", "anna", 2, 0, 1)
        for step in range(12):
            beside.order(3, "shut", "a", 0, 1)
        self.assertEqual(beside.close("a", 2, 3, 0, 1), ("Full", []))
        self.assertEqual(beside.close("a", 1, 2, 0, 1)[:2], ("no", 2))

    def test_a_closing_is_a_shut_of_each_day(self):
        beside = self.beside()
        beside.close("a", 2, 3, 0, 2)
        self.assertIsNone(beside.order(2, "unshut", "a", 0, 2))
        self.assertEqual([beside.house.sheet(day)[1] for day in (2, 3)], [(), (("a", 0, 2),)])
        beside.order(3, "go_on")
        beside.order(3, "go_on")
        self.assertEqual(beside.house.sheet(3)[1], ())


class TakenBack(Checks):
    def test_down_to_nothing(self):
        beside = self.beside(PAIR, 4, 1)
        for day in (0, 30):
            self.refused(beside.house, "NoDeed", "undo", day)
            for deed in DEEDS:
                beside.order(day, *deed)
            for deed in DEEDS:
                self.assertIsNone(beside.undo(day))
            self.refused(beside.house, "NoDeed", "undo", day)

    def test_of_one_day_whatever_was_done_on_others(self):
        beside = self.beside()
        beside.order(1, "book", "anna", 2, 0, 1)
        beside.order(2, "book", "bob", 2, 0, 1)
        beside.order(1, "go_on")
        beside.undo(2)
        self.assertEqual(beside.house.log(), [(1, ("book", "anna", 2, 0, 1)), (1, ("go_on",))])
        beside.order(2, "book", "carl", 2, 0, 1)
        beside.undo(1)
        self.assertEqual(beside.house.log(), [(1, ("book", "anna", 2, 0, 1)), (2, ("book", "carl", 2, 0, 1))])

    def test_a_closing_asked_on_any_of_its_days(self):
        for day in (3, 4, 5, 6):
            beside = self.beside(PAIR, 3, 0)
            beside.order(5, "book", "anna", 2, 0, 3)
            table = beside.house.dealing(5)[0][1][0]
            self.assertEqual(beside.close(table, 3, 6, 0, 1)[1][2], (5, ["anna"]))
            self.assertIsNone(beside.undo(day))
            self.assertEqual(beside.house.dealing(5), (("anna", (table,)),))
            self.assertEqual(beside.house.log(), [(5, ("book", "anna", 2, 0, 3))])
            for other in (3, 4, 6):
                self.refused(beside.house, "NoDeed", "undo", other)

    def test_bound_by_the_least_day(self):
        beside = self.beside()
        beside.order(5, "book", "anna", 2, 0, 1)
        beside.close("a", 3, 7, 0, 1)
        beside.order(6, "go_on")
        beside.order(4, "go_on")
        beside.order(8, "go_on")
        for day in (3, 5, 7):
            self.refused(beside.house, "Bound", "undo", day, day=4)
        # The last deed of these days is another one.
        beside.undo(4)
        for day in (3, 4, 5, 7):
            self.refused(beside.house, "Bound", "undo", day, day=6)
        beside.undo(6)
        beside.undo(6)
        self.assertEqual(beside.house.log(), [(5, ("book", "anna", 2, 0, 1)), (8, ("go_on",))])

    def test_closings_behind_one_another(self):
        beside = self.beside()
        beside.close("a", 0, 10, 0, 1)
        beside.close("b", 10, 20, 0, 1)
        beside.close("c", 20, 30, 0, 1)
        self.refused(beside.house, "Bound", "undo", 0, day=10)
        self.refused(beside.house, "Bound", "undo", 10, day=20)
        self.refused(beside.house, "Bound", "undo", 15, day=20)
        self.refused(beside.house, "Bound", "undo", 9, day=10)
        self.assertIsNone(beside.undo(20))
        self.assertEqual(beside.house.log(), [("close", "a", 0, 10, 0, 1), ("close", "b", 10, 20, 0, 1)])
        self.assertIsNone(beside.undo(10))
        self.assertIsNone(beside.undo(10))
        self.assertEqual(beside.house.log(), [])

    def test_the_same_closing_twice(self):
        beside = self.beside()
        beside.close("a", 1, 2, 0, 1)
        beside.close("a", 2, 3, 0, 1)
        beside.close("a", 1, 2, 0, 1)
        self.refused(beside.house, "Bound", "undo", 3, day=2)
        beside.undo(1)
        self.refused(beside.house, "Bound", "undo", 1, day=2)
        self.assertEqual(beside.house.log(), [("close", "a", 1, 2, 0, 1), ("close", "a", 2, 3, 0, 1)])

    def test_no_deeds(self):
        beside = self.beside(PAIR, 2, 0)
        beside.order(1, "book", "anna", 3, 0, 2)
        for order in (("book", "bob", 3, 0, 1), ("book", "anna", 1, 0, 1), ("call",), ("wait", "bob", 3, 9),
                      ("walk", "bob", 5, 1), ("come", "zoe"), ("change", "anna", 5, 0, 1)):
            beside.order(1, *order)
        beside.close("b", 0, 2, 0, 1)
        beside.close("b", 0, 31, 0, 1)
        beside.close("b", 0, 1, 0, 3)
        self.assertEqual(beside.house.log(), [(1, ("book", "anna", 3, 0, 2))])
        beside.undo(1)
        self.refused(beside.house, "NoDeed", "undo", 1)


class Log(Checks):
    def test_in_the_order_in_which_they_were_done(self):
        beside = self.beside(PAIR, 4, 1)
        due = []
        for at, deed in enumerate(DEEDS):
            for day in (9, 2, 30):
                beside.order(day, *deed)
                due.append((day, deed))
            if at in (1, 7):
                beside.close("b" if at == 1 else "a", 10, 12, 0, 4)
                due.append(("close", "b" if at == 1 else "a", 10, 12, 0, 4))
        self.assertEqual(beside.house.log(), due)

    def test_a_hundred_deeds_and_more(self):
        beside = self.beside(ALIKE, 12, 12)
        due = [(day, ("book", "anna", 1, 0, 12)) for day in (4, 3, 5)]
        for step in range(36):
            day = 3 + step % 3
            due += [(day, ("book", "bob", 1, step % 12, 1)), (3 + (step + 1) % 3, ("hold", "anna", 1)),
                    (day, ("cancel", "bob"))]
            if step % 10 == 9:
                due += [("close", "h", 2, 4 + step % 4, 0, 1)] * 2
        for deed in due:
            self.tell(beside, deed)
        self.assertEqual(beside.house.log(), due)
        self.assertGreater(len(due), 110)
        for day in (3, 4, 5) * 2:
            beside.undo(day)
        again = [(3, ("go_on",)), (4, ("go_on",)), (5, ("go_on",))]
        left = beside.house.log()
        for deed in again:
            self.tell(beside, deed)
        self.assertEqual(beside.house.log(), left + again)
        beside.undo_all()

    def tell(self, beside, deed):
        if deed[0] == "close":
            beside.close(*deed[1:])
        else:
            beside.order(deed[0], *deed[1])

    def test_what_was_told_and_then_changed(self):
        beside = self.beside(PAIR, 3, 2)
        beside.order(3, "book", "anna", 2, 0, 3)
        beside.order(3, "wait", "bob", 2, 1)
        beside.order(3, "go_on")
        table = beside.house.dealing(3)[0][1][0]
        told = beside.house.close(table, 2, 3, 1, 1)
        self.assertEqual(told, ("yes", [(2, []), (3, ["anna"])]))
        house, before = beside.house, shown_house(beside.house)
        told[1][1][1].clear()
        told[1].append("x")
        for asked in (house.log, lambda: house.late(3), lambda: house.waiting(3)):
            first = asked()
            self.assertTrue(first)
            kept = list(first)
            first[0] = None
            first.append(None)
            self.assertEqual(asked(), kept)
            asked().clear()
            self.assertEqual(asked(), kept)
        self.assertEqual(shown_house(house), before)

    def test_what_was_told_is_not_changed_later(self):
        house = House(PAIR, 3, 2)
        house.order(3, ("book", "anna", 2, 0, 3))
        told = house.close(house.dealing(3)[0][1][0], 2, 3, 1, 1)
        log = house.log()
        house.order(3, ("book", "bob", 2, 0, 1))
        house.order(2, ("go_on",))
        self.assertEqual(told, ("yes", [(2, []), (3, ["anna"])]))
        self.assertEqual(len(log), 2)
        house.undo(2)
        house.undo(3)
        house.undo(3)
        self.assertEqual((len(log), len(house.log())), (2, 1))

    def test_what_is_handed_in_stays(self):
        house = House(PAIR, 3, 2)
        day, order, table = [0], ("book", ["anna"], 2, 0, {"a": [1]}), ["a"]
        told_by(house, "order", day, order)
        told_by(house, "order", 0, order)
        told_by(house, "close", table, 0, 0, 0, 1)
        self.assertEqual((day, order, table), ([0], ("book", ["anna"], 2, 0, {"a": [1]}), ["a"]))

    def test_two_houses_stand_apart_and_tell_the_same(self):
        one, other, third = (House(ROOM, 4, 1) for step in range(3))
        chance = random.Random(17)
        for step in range(80):
            day = chance.randrange(3)
            order = chance.choice(DEEDS)
            calls = [("order", day, order), ("close", "d", day, 2, 1, 1), ("undo", day)]
            call = calls[0 if step % 8 < 6 else step % 8 - 5]
            self.assertEqual(told_by(one, *call), told_by(other, *call))
            self.assertEqual(shown_house(one), shown_house(other))
        self.assertEqual(shown_house(third), shown_house(House(ROOM, 4, 1)))


class Chances(unittest.TestCase):
    """Deeds of all sorts on several days, told a house, models and evenings, each for a day."""

    def live(self, chance, room, hours, steps, counts):
        beside = HouseBeside(self, room, hours, chance.choice((0, 1, 2, 12)))
        first = chance.choice((0, 5, 26))
        days = sorted({first, first + 1, first + 2, first + 4})
        for step in range(steps):
            some_step(chance, beside, days)
        beside.undo_all()
        for key, many in beside.counts.items():
            counts[key] = counts.get(key, 0) + many

    def test_small_and_great_rooms(self):
        chance = random.Random(113)
        counts = {}
        for step in range(40):
            self.live(chance, some_room(chance), chance.choice((1, 3, 6, 12)), 90, counts)
        for step in range(8):
            self.live(chance, great_room(chance), chance.choice((1, 4, 6, 12)), 150, counts)
        due = {("close", how) for how in ("yes", "yes, moved", "no", "no, later", "NoDay", "NoAsk", "Full")}
        due |= {("undo", how) for how in ("deed", "days", "NoDeed", "Bound")}
        due |= {(word, "deed") for word in WORDS}
        self.assertEqual(due - set(counts), set())


class Refusals(unittest.TestCase):
    def test_each_is_of_its_class_alone(self):
        house = House(ROOM, 2, 0)
        house.close("a", 0, 1, 0, 1)
        house.order(1, ("go_on",))
        for call, refusal in ((lambda: house.now(31), errors.NoDay), (lambda: house.undo(2), errors.NoDeed),
                              (lambda: house.undo(0), errors.Bound), (lambda: house.order(0, ()), errors.NoOrder)):
            with self.assertRaises(refusal) as caught:
                call()
            self.assertIs(type(caught.exception), refusal)
            self.assertEqual(refusal.__bases__, (errors.SeatError,))
        self.assertEqual(told_by(house, "undo", 0), ("Bound", [("day", 1)]))


if __name__ == "__main__":
    unittest.main()
