"""An evening: what is booked, who sits and who waits, hour by hour."""

from seatword.checks import (check_ask, check_booked, check_hold, check_known, check_longer, check_new_name,
                             check_party_more, check_shut, check_shut_more, check_sitting, check_waiting,
                             check_waiting_more, is_shut_of)
from seatword.dealings import moved_names
from seatword.errors import Early, NoDeed, NoShut, Over
from seatword.fewest import fewest_moved
from seatword.sheets import (MOST_PARTIES, is_span, party_of, stand_in, with_party, with_seat, with_shut, with_stay,
                             without_name, without_party)
from seatword.states import (begin_of, first_state, gone_names, lapsed_names, late_names, without_names,
                             without_old_shuts, without_shut)


def answer_to(room, sheet, old):
    """Of the sheet that would be (("yes", moved), dealing), or (("no", paper), None)."""
    told = fewest_moved(room, sheet, old)
    if told[0] == "barred":
        return (("no", told[1]), None)
    return (("yes", moved_names(old, told[2])), told[2])


class Evening:
    """An evening in one room. Each deed makes a new state, and leaves those ahead of it as they are."""

    def __init__(self, room, hours, grace):
        self.room = room
        self.grace = grace
        # The state ahead of all deeds, and behind it one for each deed that stands.
        self.states = [first_state(hours)]

    def state(self):
        return self.states[-1]

    def settle(self, state, sheet, old):
        """Answers the ask for this sheet; a yes is a deed."""
        answer, dealing = answer_to(self.room, sheet, old)
        if dealing is not None:
            self.states.append({**state, "sheet": sheet, "dealing": dealing})
        return answer

    def walk_in(self, state, party):
        """Answers a party that comes at once; a yes is a deed."""
        sheet = with_party(state["sheet"], party)
        answer, dealing = answer_to(self.room, sheet, state["dealing"])
        if dealing is None:
            return answer
        stand = stand_in(dealing, party[0])
        self.states.append({**state, "sheet": with_seat(sheet, party[0], stand), "dealing": dealing})
        return (*answer, stand)

    def book(self, name, guests, begin, stay):
        state = self.state()
        check_new_name(state, name)
        check_ask(state, guests, begin, stay)
        check_party_more(state)
        return self.settle(state, with_party(state["sheet"], (name, guests, begin, stay)), state["dealing"])

    def change(self, name, guests, begin, stay):
        state = self.state()
        check_booked(state, name)
        check_ask(state, guests, begin, stay)
        sheet = with_party(without_party(state["sheet"], name), (name, guests, begin, stay))
        # Without an old stand the party itself is neither counted nor told.
        return self.settle(state, sheet, without_name(state["dealing"], name))

    def cancel(self, name):
        state = self.state()
        check_booked(state, name)
        self.states.append(without_names(state, [name]))

    def shut(self, table, begin, stay):
        state = self.state()
        check_shut(self.room, state, (table, begin, stay))
        check_shut_more(state)
        return self.settle(state, with_shut(state["sheet"], (table, begin, stay)), state["dealing"])

    def unshut(self, table, begin, stay):
        state = self.state()
        shut = (table, begin, stay)
        # A truth equals a number, so that the form is asked first.
        if not is_shut_of(self.room, state, shut) or shut not in state["sheet"][1]:
            raise NoShut("this table is not shut for just these hours")
        self.states.append({**state, "sheet": without_shut(state["sheet"], shut)})

    def come(self, name):
        state = self.state()
        check_booked(state, name)
        begin = begin_of(state, name)
        if begin > state["now"]:
            raise Early(begin)
        stand = stand_in(state["dealing"], name)
        self.states.append({**state, "sheet": with_seat(state["sheet"], name, stand)})
        return stand

    def walk(self, name, guests, stay):
        state = self.state()
        check_new_name(state, name)
        check_ask(state, guests, state["now"], stay)
        check_party_more(state)
        return self.walk_in(state, (name, guests, state["now"], stay))

    def leave(self, name):
        state = self.state()
        check_sitting(state, name)
        self.states.append(without_names(state, [name]))

    def longer(self, name, more):
        state = self.state()
        check_known(state, name)
        check_longer(state, name, more)
        stay = party_of(state["sheet"], name)[3] + more
        return self.settle(state, with_stay(state["sheet"], name, stay), state["dealing"])

    def hold(self, name, more):
        state = self.state()
        check_booked(state, name)
        check_hold(more)
        self.states.append({**state, "holds": state["holds"] + ((name, more),)})

    def wait(self, name, guests, stay):
        state = self.state()
        check_new_name(state, name)
        check_ask(state, guests, state["now"], stay)
        check_waiting_more(state)
        self.states.append({**state, "line": state["line"] + ((name, guests, stay),)})

    def give_up(self, name):
        state = self.state()
        check_waiting(state, name)
        self.states.append({**state, "line": without_name(state["line"], name)})

    def call(self):
        state = self.state()
        if len(state["sheet"][2]) >= MOST_PARTIES:
            return None
        now = state["now"]
        for name, guests, stay in state["line"]:
            if is_span(state["sheet"][0], now, stay):
                called = {**state, "line": without_name(state["line"], name)}
                answer = self.walk_in(called, (name, guests, now, stay))
                if answer[0] == "yes":
                    return (name, answer[1], answer[2])
        return None

    def go_on(self):
        state = self.state()
        now = state["now"] + 1
        if now >= state["sheet"][0]:
            raise Over("the evening has no later hour")
        gone = gone_names(state, now)
        lapsed = lapsed_names(state, now, self.grace)
        left = without_names(state, gone + lapsed)
        self.states.append({**left, "now": now, "sheet": without_old_shuts(left["sheet"], now)})
        return (gone, lapsed)

    def now(self):
        return self.state()["now"]

    def sheet(self):
        return self.state()["sheet"]

    def dealing(self):
        return self.state()["dealing"]

    def late(self):
        return late_names(self.state())

    def waiting(self):
        return list(self.state()["line"])

    def undo(self):
        if self.deeds() == 0:
            raise NoDeed("no deed stands that could be taken back")
        self.states.pop()

    def deeds(self):
        return len(self.states) - 1
