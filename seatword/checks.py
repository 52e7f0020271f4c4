"""What an evening refuses, of names, numbers and tables of anything."""

from seatword.errors import Full, NoAsk, NoName, NotSitting, Sits, Taken, Unknown
from seatword.kinds import is_whole, is_within
from seatword.rooms import is_name, tables_of
from seatword.sheets import MOST_PARTIES, MOST_SHUTS, is_ask, is_shut, is_span, party_of, span_of
from seatword.states import does_sit, line_names, party_names

MOST_WAITING = 8
MOST_HOLD = 12


def check_new_name(state, name):
    if not is_name(name):
        raise NoName("a name is one to eight small letters")
    if name in party_names(state) or name in line_names(state):
        raise Taken(name)


def check_known(state, name):
    if name not in party_names(state):
        raise Unknown(name)


def check_booked(state, name):
    check_known(state, name)
    if does_sit(state, name):
        raise Sits(name)


def check_sitting(state, name):
    check_known(state, name)
    if not does_sit(state, name):
        raise NotSitting(name)


def check_waiting(state, name):
    if name not in line_names(state):
        raise Unknown(name)


def check_ask(state, guests, begin, stay):
    if not is_ask(state["sheet"][0], guests, begin, stay) or begin < state["now"]:
        raise NoAsk("guests and hours are not such as can be asked for")


def check_party_more(state):
    if len(state["sheet"][2]) >= MOST_PARTIES:
        raise Full("no more parties can be booked")


def check_waiting_more(state):
    if len(state["line"]) >= MOST_WAITING:
        raise Full("no more can wait")


def is_shut_of(room, state, shut):
    return is_shut(tables_of(room), state["sheet"][0], shut)


def check_shut(room, state, shut):
    if not is_shut_of(room, state, shut) or shut[1] < state["now"]:
        raise NoAsk("table and hours are not such as can be shut")


def check_shut_more(state):
    if len(state["sheet"][1]) >= MOST_SHUTS:
        raise Full("no more tables can be shut")


def check_longer(state, name, more):
    begin, stay = span_of(party_of(state["sheet"], name))
    if not is_whole(more) or more < 1 or not is_span(state["sheet"][0], begin, stay + more):
        raise NoAsk("the stay cannot be so much longer")


def check_hold(more):
    if not is_within(more, 1, MOST_HOLD):
        raise NoAsk("the grace cannot be so much longer")
