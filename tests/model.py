"""An evening anew, as points [24] to [29] say it clause by clause, and one told the same as the program's own."""

import copy

from seatword import errors
from seatword.dealings import fault_of
from seatword.evenings import Evening
from seatword.papers import bars
from small import fewest_by_steps, is_plain, paper_bars

ASKS = ("book", "change", "shut", "walk", "longer")
WORDS = {"book": 4, "change": 4, "cancel": 1, "shut": 3, "unshut": 3, "come": 1, "walk": 3, "leave": 1, "longer": 2,
         "hold": 2, "wait": 3, "give_up": 1, "call": 0, "go_on": 0}


def whole(thing, least, most=10 ** 70):
    return type(thing) is int and least <= thing <= most


def is_a_name(thing):
    return type(thing) is str and 1 <= len(thing) <= 8 and all("a" <= sign <= "z" for sign in thing)


class Model:
    """What an evening keeps. Its dealing is taken from the evening that it stands beside."""

    def __init__(self, room, hours, grace):
        self.room, self.hours, self.grace = room, hours, grace
        self.now = 0
        self.shuts = []
        self.parties = {}
        self.stands = {}
        self.sitting = []
        self.holds = {}
        self.line = []

    def tables(self):
        return [table[0] for row in self.room[0] for table in row]

    def sheet(self):
        parties = tuple((name,) + self.parties[name] for name in sorted(self.parties))
        seats = tuple((name, self.stands[name]) for name in sorted(self.sitting))
        return (self.hours, tuple(self.shuts), parties, seats)

    def dealing(self):
        return tuple(sorted(self.stands.items()))

    def late(self):
        return [name for name in sorted(self.parties)
                if name not in self.sitting and self.parties[name][1] < self.now]

    def waits(self, name):
        return any(row[0] == name for row in self.line)

    def is_there(self, name):
        return any(one == name for one in self.parties)

    # Refusals: each gives None or (class, field, what it holds).

    def refusal(self, word, things):
        return getattr(self, "refuse_" + word)(*things)

    def refuse_new(self, name):
        if not is_a_name(name):
            return ("NoName",)
        if self.is_there(name) or self.waits(name):
            return ("Taken", "name", name)
        return None

    def refuse_ask(self, guests, begin, stay):
        if whole(guests, 1, 60) and whole(begin, self.now) and whole(stay, 1) and begin + stay <= self.hours:
            return None
        return ("NoAsk",)

    def refuse_book(self, name, guests, begin, stay):
        full = ("Full",) if len(self.parties) == 8 else None
        return self.refuse_new(name) or self.refuse_ask(guests, begin, stay) or full

    def refuse_walk(self, name, guests, stay):
        return self.refuse_book(name, guests, self.now, stay)

    def refuse_unless_there(self, name):
        return None if self.is_there(name) else ("Unknown", "name", name)

    def refuse_unless_booked(self, name):
        return self.refuse_unless_there(name) or (("Sits", "name", name) if name in self.sitting else None)

    def refuse_change(self, name, guests, begin, stay):
        return self.refuse_unless_booked(name) or self.refuse_ask(guests, begin, stay)

    def refuse_cancel(self, name):
        return self.refuse_unless_booked(name)

    def refuse_shut(self, table, begin, stay):
        if type(table) is not str or table not in self.tables() or self.refuse_ask(1, begin, stay):
            return ("NoAsk",)
        return ("Full",) if len(self.shuts) == 12 else None

    def refuse_unshut(self, table, begin, stay):
        kinds = (type(table), type(begin), type(stay)) == (str, int, int)
        return None if kinds and (table, begin, stay) in self.shuts else ("NoShut",)

    def refuse_come(self, name):
        refused = self.refuse_unless_booked(name)
        if refused is None and self.parties[name][1] > self.now:
            return ("Early", "hour", self.parties[name][1])
        return refused

    def refuse_leave(self, name):
        if self.is_there(name) and name not in self.sitting:
            return ("NotSitting", "name", name)
        return self.refuse_unless_there(name)

    def refuse_longer(self, name, more):
        refused = self.refuse_unless_there(name)
        if refused is None and not (whole(more, 1) and sum(self.parties[name][1:]) + more <= self.hours):
            return ("NoAsk",)
        return refused

    def refuse_hold(self, name, more):
        return self.refuse_unless_booked(name) or (None if whole(more, 1, 12) else ("NoAsk",))

    def refuse_wait(self, name, guests, stay):
        full = ("Full",) if len(self.line) == 8 else None
        return self.refuse_new(name) or self.refuse_ask(guests, self.now, stay) or full

    def refuse_give_up(self, name):
        return None if self.waits(name) else ("Unknown", "name", name)

    def refuse_call(self):
        return None

    def refuse_go_on(self):
        return ("Over",) if self.now + 1 == self.hours else None

    # Asks: the model that would be, without a stand for the party that has no seat.

    def would_be(self, word, things):
        other = copy.deepcopy(self)
        if word == "shut":
            other.shuts.append(things)
        elif word == "longer":
            guests, begin, stay = self.parties[things[0]]
            other.parties[things[0]] = (guests, begin, stay + things[1])
        else:
            numbers = things[1:] if word in ("book", "change") else (things[1], self.now, things[2])
            other.parties[things[0]] = numbers
            other.stands.pop(things[0], None)
        return other

    # Other deeds: what is told.

    def drop(self, name):
        for kept in (self.parties, self.stands, self.holds):
            kept.pop(name, None)
        self.sitting = [one for one in self.sitting if one != name]

    def do(self, word, things):
        if word in ("cancel", "leave"):
            self.drop(things[0])
        elif word == "unshut":
            self.shuts.remove(things)
        elif word == "come":
            self.sitting.append(things[0])
            return self.stands[things[0]]
        elif word == "hold":
            self.holds[things[0]] = self.holds.get(things[0], 0) + things[1]
        elif word == "wait":
            self.line.append(things)
        elif word == "give_up":
            self.line = [row for row in self.line if row[0] != things[0]]
        elif word == "go_on":
            return self.go_on()
        return None

    def go_on(self):
        self.now += 1
        over = [name for name in sorted(self.parties) if sum(self.parties[name][1:]) <= self.now]
        gone = [name for name in over if name in self.sitting]
        lapsed = []
        for name in sorted(self.parties):
            last = self.parties[name][1] + self.grace + self.holds.get(name, 0)
            if name not in self.sitting and (name in over or last < self.now):
                lapsed.append(name)
        for name in gone + lapsed:
            self.drop(name)
        self.shuts = [shut for shut in self.shuts if shut[1] + shut[2] > self.now]
        return (gone, lapsed)


def tell(evening, deed):
    """What is told, or the class of the refusal and its fields."""
    try:
        return getattr(evening, deed[0])(*deed[1:])
    except errors.SeatError as refused:
        return refusal_of(refused)


def refusal_of(refused):
    return (type(refused).__name__, sorted(vars(refused).items()))


def shown(evening):
    return (evening.now(), evening.sheet(), evening.dealing(), evening.late(), evening.waiting(), evening.deeds())


class Beside:
    """An evening, or what is told as one, and a model of it, told the same; fails the test where they differ."""

    def __init__(self, test, room, hours, grace, evening=None):
        self.test = test
        self.evening = evening or Evening(room, hours, grace)
        self.model = Model(room, hours, grace)
        # For each deed that stands the model and what was shown ahead of it.
        self.ahead = []
        self.counts = {}
        self.compare()

    def compare(self):
        test, evening, model = self.test, self.evening, self.model
        test.assertEqual(evening.now(), model.now)
        test.assertEqual(evening.sheet(), model.sheet())
        test.assertEqual(evening.dealing(), model.dealing())
        test.assertIsNone(fault_of(model.room, evening.sheet(), evening.dealing()))
        test.assertEqual(evening.late(), model.late())
        test.assertEqual(evening.waiting(), model.line)
        test.assertEqual(evening.deeds(), len(self.ahead))

    def count(self, word, how):
        self.counts[word, how] = self.counts.get((word, how), 0) + 1

    def tell(self, word, *things):
        """What the evening tells, or the refusal; all of it is compared."""
        before = shown(self.evening)
        refused = self.model.refusal(word, things)
        if refused is not None:
            told = self.refuse(word, things, refused)
        elif word in ASKS:
            told = self.ask(word, things, before)
        elif word == "call":
            told = self.call(before)
        else:
            told = getattr(self.evening, word)(*things)
            self.ahead.append((copy.deepcopy(self.model), before))
            self.test.assertEqual(told, self.model.do(word, things), (word, things))
            self.count(word, "deed")
        if len(self.ahead) == before[-1]:
            self.test.assertEqual(shown(self.evening), before, (word, things))
        self.compare()
        return told

    def refuse(self, word, things, refused):
        with self.test.assertRaises(errors.SeatError) as caught:
            getattr(self.evening, word)(*things)
        error = caught.exception
        self.test.assertIs(type(error), getattr(errors, refused[0]), (word, things))
        if len(refused) > 1:
            self.test.assertEqual(getattr(error, refused[1]), refused[2])
        self.count(word, refused[0])
        return error

    def check_no(self, sheet, paper):
        self.test.assertTrue(is_plain(paper))
        self.test.assertIs(bars(self.model.room, sheet, (), None, paper), True, (sheet, paper))
        self.test.assertTrue(paper_bars(self.model.room, sheet, (), None, paper))

    def take_over(self, other, before, moved):
        """The model that would be becomes the model, with the stands of the evening's dealing."""
        many = fewest_by_steps(other.room, other.sheet(), other.dealing())
        old = other.stands
        other.stands = dict(self.evening.dealing())
        differ = [name for name in sorted(old) if old[name] != other.stands[name]]
        self.test.assertIs(type(moved), list)
        self.test.assertEqual((moved, len(moved)), (differ, many))
        self.test.assertFalse(set(moved) & set(self.model.sitting))
        self.ahead.append((self.model, before))
        self.model = other

    def ask(self, word, things, before):
        other = self.model.would_be(word, things)
        sheet = other.sheet()
        many = fewest_by_steps(other.room, sheet, other.dealing())
        told = getattr(self.evening, word)(*things)
        self.test.assertIs(type(told), tuple)
        if many is None:
            self.test.assertEqual((told[0], len(told)), ("no", 2))
            self.check_no(sheet, told[1])
            self.count(word, "no")
            return told
        self.test.assertEqual((told[0], len(told)), ("yes", 3 if word == "walk" else 2), (word, things))
        self.take_over(other, before, told[1])
        if word == "walk":
            self.test.assertEqual(told[2], self.model.stands[things[0]])
            self.model.sitting.append(things[0])
        self.count(word, "yes, moved" if told[1] else "yes")
        return told

    def first_of_line(self):
        """The place in the line of the one that call ought to tell, and the model that would be, or None."""
        for at, (name, guests, stay) in enumerate(self.model.line):
            if len(self.model.parties) < 8 and self.model.now + stay <= self.model.hours:
                other = self.model.would_be("walk", (name, guests, stay))
                if fewest_by_steps(other.room, other.sheet(), other.dealing()) is not None:
                    return at, other
        return None

    def call(self, before):
        due = self.first_of_line()
        told = self.evening.call()
        if due is None:
            self.test.assertIsNone(told)
            self.count("call", "none")
            return told
        at, other = due
        name = self.model.line[at][0]
        self.test.assertEqual((type(told), len(told), told[0]), (tuple, 3, name))
        self.take_over(other, before, told[1])
        self.test.assertEqual(told[2], self.model.stands[name])
        self.model.sitting.append(name)
        self.model.line = self.model.line[:at] + self.model.line[at + 1:]
        self.count("call", "passed by" if at else "first")
        return told

    def undo(self):
        if not self.ahead:
            with self.test.assertRaises(errors.NoDeed):
                self.evening.undo()
            self.count("undo", "NoDeed")
        else:
            self.test.assertIsNone(self.evening.undo())
            self.model, before = self.ahead.pop()
            self.test.assertEqual(shown(self.evening), before)
            self.count("undo", "deed")
        self.compare()
