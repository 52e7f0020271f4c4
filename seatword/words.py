"""Words and numbers, as they are written in texts."""

from seatword.rooms import is_word

FIGURES = "0123456789"
MOST_FIGURES = 60


def read_number(text):
    """The number from 0 on that is written so, or None."""
    if not 1 <= len(text) <= MOST_FIGURES or not all(sign in FIGURES for sign in text):
        return None
    if text[0] == "0" and text != "0":
        return None
    return int(text)


def read_thing(text):
    """The word of small letters or the number that is written so, or None."""
    return text if is_word(text) else read_number(text)


def read_things(texts):
    return tuple(read_thing(text) for text in texts)


def show_things(things):
    return " ".join([str(thing) for thing in things])
