"""Orders: deeds of an evening that are handed on as tuples."""

from seatword.kinds import is_tuple

# How many things the method of each word is handed.
COUNTS = {"book": 4, "change": 4, "cancel": 1, "shut": 3, "unshut": 3, "come": 1, "walk": 3, "leave": 1, "longer": 2,
          "hold": 2, "wait": 3, "give_up": 1, "call": 0, "go_on": 0}


def is_order(thing):
    if not is_tuple(thing, 1, 5) or not isinstance(thing[0], str):
        return False
    return COUNTS.get(thing[0]) == len(thing) - 1


def do_order(evening, order):
    word, *things = order
    match word:
        case "book":
            return evening.book(*things)
        case "change":
            return evening.change(*things)
        case "cancel":
            return evening.cancel(*things)
        case "shut":
            return evening.shut(*things)
        case "unshut":
            return evening.unshut(*things)
        case "come":
            return evening.come(*things)
        case "walk":
            return evening.walk(*things)
        case "leave":
            return evening.leave(*things)
        case "longer":
            return evening.longer(*things)
        case "hold":
            return evening.hold(*things)
        case "wait":
            return evening.wait(*things)
        case "give_up":
            return evening.give_up(*things)
        case "call":
            return evening.call()
        case "go_on":
            return evening.go_on()
