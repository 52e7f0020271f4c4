"""Deeds of a house, as its log tells them: written as rows, read, and done."""

from seatword.houses import is_closing
from seatword.kinds import is_whole
from seatword.ordertexts import order_of, show_order
from seatword.words import read_number, read_things, show_things


def show_deed(deed):
    if is_closing(deed):
        return show_things(deed)
    day, order = deed
    return f"{day} {show_order(order)}"


def closing_of(texts):
    """The closing that is written by these words, the first of them its own, or None."""
    things = read_things(texts[1:])
    if len(things) != 5 or not isinstance(things[0], str) or not all(is_whole(thing) for thing in things[1:]):
        return None
    return ("close", *things)


def read_deed(row):
    """The deed that is written so, or None."""
    texts = row.split(" ")
    if texts[0] == "close":
        return closing_of(texts)
    day = read_number(texts[0])
    order = order_of(texts[1:])
    if day is None or order is None:
        return None
    return (day, order)


def do_deed(house, deed):
    """What the house tells of it."""
    if is_closing(deed):
        word, table, first, last, begin, stay = deed
        return house.close(table, first, last, begin, stay)
    day, order = deed
    return house.order(day, order)
