"""A house anew, as points [31] and [32] say it: a model and an evening of its own for each day, told the same."""

from chances import some_deed
from model import Beside, refusal_of, shown, tell, whole
from seatword.errors import SeatError
from seatword.evenings import Evening
from seatword.houses import House
from small import fewest_by_steps

DAYS = 31


def is_a_day(thing):
    return whole(thing, 0, 30)


class Day:
    """A day of a house, told as an evening is."""

    def __init__(self, house, day):
        self.house, self.day = house, day

    def __getattr__(self, word):
        return lambda *things: self.house.order(self.day, (word,) + things)

    def now(self):
        return self.house.now(self.day)

    def sheet(self):
        return self.house.sheet(self.day)

    def dealing(self):
        return self.house.dealing(self.day)

    def late(self):
        return self.house.late(self.day)

    def waiting(self):
        return self.house.waiting(self.day)

    def undo(self):
        return self.house.undo(self.day)

    def deeds(self):
        return sum(is_of_day(deed, self.day) for deed in self.house.log())


def is_of_day(deed, day):
    return day in (range(deed[2], deed[3] + 1) if deed[0] == "close" else [deed[0]])


def shown_house(house):
    """All that a house tells of itself."""
    days = [(house.now(day), house.sheet(day), house.dealing(day), house.late(day), house.waiting(day))
            for day in range(DAYS)]
    return (days, house.log())


def told_by(house, word, *things):
    """What is told, or the class of the refusal and its fields."""
    return tell(house, (word,) + things)


class HouseBeside:
    """A house, and a model and an evening for each of its days; fails the test where they differ."""

    def __init__(self, test, room, hours, grace):
        self.test = test
        self.house = House(room, hours, grace)
        self.days = [Beside(test, room, hours, grace, Day(self.house, day)) for day in range(DAYS)]
        self.alone = [Evening(room, hours, grace) for day in range(DAYS)]
        self.log = []
        # For each day its deeds by their numbers; a closing has one number on all its days.
        self.piles = [[] for day in range(DAYS)]
        self.many = 0
        self.counts = {}

    def count(self, word, how):
        self.counts[word, how] = self.counts.get((word, how), 0) + 1

    def compare(self):
        self.test.assertEqual(self.house.log(), [deed for number, deed in self.log])
        for day in range(DAYS):
            if self.days[day].ahead or self.alone[day].deeds():
                self.days[day].compare()
                self.test.assertEqual(shown(self.alone[day]), shown(self.days[day].evening))

    def stand(self, deed, days):
        self.many += 1
        self.log.append((self.many, deed))
        for day in days:
            self.piles[day].append(self.many)

    def refused(self, word, things, refusal, **fields):
        """That this is refused so, and changes nothing."""
        before = shown_house(self.house)
        told = told_by(self.house, word, *things)
        self.test.assertEqual(told, (refusal, sorted(fields.items())), (word, things))
        self.test.assertEqual(shown_house(self.house), before)
        self.count(word, refusal)
        return told

    def order(self, day, *order):
        """Of a day and an order."""
        beside = self.days[day]
        deeds = len(beside.ahead)
        told = beside.tell(*order)
        if isinstance(told, SeatError):
            told = refusal_of(told)
        self.test.assertEqual(tell(self.alone[day], order), told)
        if len(beside.ahead) > deeds:
            self.stand((day, order), [day])
        self.compare()
        self.count(order[0], "deed" if len(beside.ahead) > deeds else "none")
        return told

    def close(self, table, first, last, begin, stay):
        if not (is_a_day(first) and is_a_day(last) and first <= last):
            return self.refused("close", (table, first, last, begin, stay), "NoDay")
        days = range(first, last + 1)
        due = [self.days[day].model.refuse_shut(table, begin, stay) for day in days]
        for refusal in ("NoAsk", "Full"):
            if (refusal,) in due:
                return self.refused("close", (table, first, last, begin, stay), refusal)
        before = shown_house(self.house)
        ahead = [shown(self.days[day].evening) for day in days]
        models = [self.days[day].model.would_be("shut", (table, begin, stay)) for day in days]
        told = self.house.close(table, first, last, begin, stay)
        for day, model in zip(days, models):
            if fewest_by_steps(model.room, model.sheet(), model.dealing()) is None:
                self.test.assertEqual(told[:2], ("no", day))
                self.days[day].check_no(*((model.sheet(), told[2])))
                self.test.assertEqual(self.alone[day].shut(table, begin, stay), ("no", told[2]))
                self.test.assertEqual((shown_house(self.house), len(told)), (before, 3))
                self.count("close", "no" if day == first else "no, later")
                return told
        self.closed(told, models, ahead, ("close", table, first, last, begin, stay))
        return told

    def closed(self, told, models, ahead, deed):
        days = range(deed[2], deed[3] + 1)
        self.test.assertEqual((type(told), len(told), told[0], type(told[1])), (tuple, 2, "yes", list))
        self.test.assertEqual([row[0] for row in told[1]], list(days))
        for (day, moved), model, before in zip(told[1], models, ahead):
            self.days[day].take_over(model, before, moved)
            self.test.assertEqual(self.alone[day].shut(deed[1], *deed[4:]), ("yes", moved))
        self.stand(deed, days)
        self.compare()
        self.count("close", "yes, moved" if any(moved for day, moved in told[1]) else "yes")

    def undo(self, day):
        if not self.piles[day]:
            return self.refused("undo", (day,), "NoDeed")
        number = self.piles[day][-1]
        days = [other for other in range(DAYS) if number in self.piles[other]]
        bound = [other for other in days if self.piles[other][-1] != number]
        if bound:
            return self.refused("undo", (day,), "Bound", day=bound[0])
        self.test.assertIsNone(self.house.undo(day))
        for other in days:
            self.piles[other].pop()
            self.days[other].model, before = self.days[other].ahead.pop()
            self.test.assertEqual(shown(self.days[other].evening), before)
            self.alone[other].undo()
        self.log = [row for row in self.log if row[0] != number]
        self.compare()
        self.count("undo", "days" if len(days) > 1 else "deed")
        return None

    def undo_all(self):
        """Down to nothing: where the last deed of a day is bound, that of the day told is taken back first."""
        for day in range(DAYS):
            while self.piles[day]:
                asked = day
                while (told := self.undo(asked)) is not None:
                    asked = dict(told[1])["day"]
            self.undo(day)
        self.test.assertEqual(shown_house(self.house)[1], [])


def some_closing(chance, beside, days):
    """A closing over some of the days, most of them such as may be done."""
    first = chance.choice(days)
    last = chance.choice([day for day in days if day >= first])
    model = beside.days[chance.choice((first, last))].model
    begin = min(chance.randint(model.now, model.now + 3), model.hours - 1)
    closing = [chance.choice(model.tables()), first, last, begin, chance.randint(1, model.hours - begin)]
    if chance.random() < 0.15:
        closing[chance.randrange(5)] = chance.choice((None, -1, 31, True, "zoe", 0, 12, [1]))
    return closing


def some_step(chance, beside, days, **spoilt):
    """One deed of a house of any sort, told it and its model."""
    what = chance.random()
    if what < 0.12:
        return beside.undo(chance.choice(days))
    if what < 0.22:
        return beside.close(*some_closing(chance, beside, days))
    day = chance.choice(days)
    return beside.order(day, *some_deed(chance, beside.days[day].model, **spoilt))
