"""Orders, written as texts and read."""

from seatword.errors import NoText
from seatword.orders import is_order
from seatword.words import read_things, show_things


def show_order(order):
    return show_things(order)


def order_of(texts):
    """The order that is written by these words, or None."""
    things = read_things(texts[1:])
    order = tuple(texts[:1]) + things
    return order if is_order(order) and None not in things else None


def read_order(text):
    order = order_of(text.split(" "))
    if order is None:
        raise NoText(0)
    return order
