"""A house: an evening for each of its days, tables closed over several of them, and what stands of all that."""

from seatword.checks import check_shut, check_shut_more
from seatword.errors import Bound, NoDay, NoDeed, NoOrder
from seatword.evenings import Evening
from seatword.kinds import is_within
from seatword.orders import do_order, is_order

DAYS = 31


def check_day(day):
    if not is_within(day, 0, DAYS - 1):
        raise NoDay("days are numbered from 0 to 30")


def check_days(first, last):
    check_day(first)
    check_day(last)
    if first > last:
        raise NoDay("the first day is behind the last")


def is_closing(deed):
    return deed[0] == "close"


def is_on(deed, day):
    """Whether the deed is one of this day."""
    if is_closing(deed):
        return deed[2] <= day <= deed[3]
    return deed[0] == day


class House:
    """An evening for each day. What was done over several days is taken back on all of them, or on none."""

    def __init__(self, room, hours, grace):
        self.room = room
        self.evenings = [Evening(room, hours, grace) for day in range(DAYS)]
        # The deeds that stand, as the log tells them. What is done was found to be of names and numbers alone.
        self.standing = []

    def evening(self, day):
        check_day(day)
        return self.evenings[day]

    def order(self, day, order):
        evening = self.evening(day)
        if not is_order(order):
            raise NoOrder("an order is a tuple of a word and its things")
        deeds = evening.deeds()
        told = do_order(evening, order)
        if evening.deeds() > deeds:
            self.standing.append((day, order))
        return told

    def close(self, table, first, last, begin, stay):
        check_days(first, last)
        states = [evening.state() for evening in self.evenings[first:last + 1]]
        for state in states:
            check_shut(self.room, state, (table, begin, stay))
        for state in states:
            check_shut_more(state)
        answer = self.shut_days(table, first, last, begin, stay)
        if answer[0] == "yes":
            self.standing.append(("close", table, first, last, begin, stay))
        return answer

    def shut_days(self, table, first, last, begin, stay):
        """Shuts the table on each of the days, or, where one says no, on none."""
        rows = []
        for day in range(first, last + 1):
            told = self.evenings[day].shut(table, begin, stay)
            if told[0] == "no":
                for ahead, moved in rows:
                    self.evenings[ahead].undo()
                return ("no", day, told[1])
            rows.append((day, told[1]))
        return ("yes", rows)

    def last_place(self, day):
        """Where the last deed of the day is among those that stand."""
        places = [at for at, deed in enumerate(self.standing) if is_on(deed, day)]
        if not places:
            raise NoDeed("no deed of this day stands that could be taken back")
        return places[-1]

    def undo(self, day):
        check_day(day)
        place = self.last_place(day)
        days = [other for other in range(DAYS) if is_on(self.standing[place], other)]
        for other in days:
            if self.last_place(other) != place:
                raise Bound(other)
        for other in days:
            self.evenings[other].undo()
        del self.standing[place]

    def log(self):
        return list(self.standing)

    def deeds(self):
        return len(self.standing)

    def now(self, day):
        return self.evening(day).now()

    def sheet(self, day):
        return self.evening(day).sheet()

    def dealing(self, day):
        return self.evening(day).dealing()

    def late(self, day):
        return self.evening(day).late()

    def waiting(self, day):
        return self.evening(day).waiting()
