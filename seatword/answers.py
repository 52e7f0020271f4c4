"""What a house tells, as texts of one row."""

from seatword.houses import is_closing
from seatword.words import show_things


def show_names(names):
    return show_things(names) if names else "none"


def show_done(told):
    return "ok"


def show_yes(moved):
    return show_things(("yes", *moved))


def show_no(paper):
    if paper[0] == "crowd":
        return f"no at {paper[1]} from {paper[2]}"
    return "no"


def show_come(told):
    return show_things(told)


def show_seated(moved, stand):
    return f"{show_yes(moved)} at {show_things(stand)}"


def show_ask(told):
    return show_yes(told[1]) if told[0] == "yes" else show_no(told[1])


def show_walk(told):
    return show_seated(told[1], told[2]) if told[0] == "yes" else show_no(told[1])


def show_call(told):
    if told is None:
        return "none"
    name, moved, stand = told
    return f"{name} {show_seated(moved, stand)}"


def show_go_on(told):
    gone, lapsed = told
    return show_things(("gone", *gone, "lapsed", *lapsed))


def show_closing(told):
    if told[0] == "no":
        return f"{told[1]} {show_no(told[2])}"
    return "; ".join(["yes"] + [show_things((day, *moved)) for day, moved in told[1] if moved])


# By the words of orders, not by what is told: a party may be called yes or no.
ANSWERS = {"book": show_ask, "change": show_ask, "cancel": show_done, "shut": show_ask, "unshut": show_done,
           "come": show_come, "walk": show_walk, "leave": show_done, "longer": show_ask, "hold": show_done,
           "wait": show_done, "give_up": show_done, "call": show_call, "go_on": show_go_on}


def show_answer(deed, told):
    """The answer to a deed of which the house told this."""
    if is_closing(deed):
        return show_closing(told)
    show = ANSWERS[deed[1][0]]
    return show(told)
