"""What an evening keeps, as a dict that is never changed: each deed makes a new one.

Its keys: "now", the hour; "sheet", whose seats are those of the parties that sit; "dealing"; "holds", a tuple of
(name, more), one for each hold of a party that is there; "line", a tuple of (name, guests, stay).
"""

from seatword.sheets import names_in, party_of, seat_of, span_of, without_name, without_party


def first_state(hours):
    return {"now": 0, "sheet": (hours, (), (), ()), "dealing": (), "holds": (), "line": ()}


def party_names(state):
    return names_in(state["sheet"][2])


def line_names(state):
    return names_in(state["line"])


def does_sit(state, name):
    return seat_of(state["sheet"], name) is not None


def begin_of(state, name):
    return party_of(state["sheet"], name)[2]


def sitting_parties(state):
    return [party for party in state["sheet"][2] if does_sit(state, party[0])]


def booked_parties(state):
    return [party for party in state["sheet"][2] if not does_sit(state, party[0])]


def late_names(state):
    return [party[0] for party in booked_parties(state) if party[2] < state["now"]]


def is_over(now, span):
    return span[0] + span[1] <= now


def gone_names(state, now):
    """Those that sit whose hours are over."""
    return [party[0] for party in sitting_parties(state) if is_over(now, span_of(party))]


def has_lapsed(state, party, now, grace):
    more = sum(hours for name, hours in state["holds"] if name == party[0])
    return is_over(now, span_of(party)) or party[2] + grace + more < now


def lapsed_names(state, now, grace):
    return [party[0] for party in booked_parties(state) if has_lapsed(state, party, now, grace)]


def without_names(state, names):
    """The state without these parties; the others keep their stands."""
    sheet = state["sheet"]
    dealing = state["dealing"]
    holds = state["holds"]
    for name in names:
        sheet = without_party(sheet, name)
        dealing = without_name(dealing, name)
        holds = without_name(holds, name)
    return {**state, "sheet": sheet, "dealing": dealing, "holds": holds}


def without_shut(sheet, shut):
    """The sheet without the first shut that is this one."""
    hours, shuts, parties, seats = sheet
    at = shuts.index(shut)
    return (hours, shuts[:at] + shuts[at + 1:], parties, seats)


def without_old_shuts(sheet, now):
    hours, shuts, parties, seats = sheet
    return (hours, tuple(shut for shut in shuts if not is_over(now, shut[1:])), parties, seats)
