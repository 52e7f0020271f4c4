"""How points [33] to [35] have texts, by patterns, without the program; and texts with some sign or row otherwise."""

import re

from model import WORDS
from small import stands_in

NAME = "[a-z]{1,8}"
NUMBER = "(?:0|[1-9][0-9]{0,59})"
SIGNS = "\n 0123456789abz-;/.AZ~_\t"


def room_text(room):
    rows, lost = room
    text = "lost " + str(lost)
    for row in rows:
        text += "\nrow"
        for name, places in row:
            text += " " + name + " " + str(places)
    return text


def sheet_text(sheet):
    hours, shuts, parties, seats = sheet
    text = "hours %d" % hours
    for shut in shuts:
        text += "\nshut %s %d %d" % shut
    for party in parties:
        text += "\nparty %s %d %d %d" % party
    for name, stand in seats:
        text += "\nseat " + name + " " + " ".join(stand)
    return text


def dealing_text(dealing):
    return "; ".join(name + " " + " ".join(stand) for name, stand in dealing) or "-"


def room_fault(text):
    """The row that NoText ought to tell, or None where the text is a room's."""
    rows = text.split("\n")
    if not re.fullmatch("lost [0-4]", rows[0]):
        return 0
    names = []
    for at, row in enumerate(rows[1:], 1):
        if at == 5 or not re.fullmatch("row(?: %s (?:[1-9]|1[0-9]|20)){1,6}" % NAME, row):
            return at
        names += row.split(" ")[1::2]
        if len(names) > 8 or len(set(names)) < len(names):
            return at
    return None if len(rows) > 1 else 1


def spans(hours):
    return ["%d %d" % (begin, stay) for begin in range(hours) for stay in range(1, hours - begin + 1)]


def sheet_fault(room, text):
    """As room_fault, of a sheet of the room."""
    rows = text.split("\n")
    if not re.fullmatch("hours (?:[1-9]|1[0-2])", rows[0]):
        return 0
    tables = [table[0] for row in room[0] for table in row]
    stands = [" ".join(stand) for stand, places in stands_in(room)]
    all_spans = "(?:" + "|".join(spans(int(rows[0][6:]))) + ")"
    forms = {"shut": "shut (%s) %s" % ("|".join(tables), all_spans),
             "party": "party (%s) (?:[1-9]|[1-5][0-9]|60) %s" % (NAME, all_spans),
             "seat": "seat (%s) (?:%s)" % (NAME, "|".join(stands))}
    found = {"shut": [], "party": [], "seat": []}
    for at, row in enumerate(rows[1:], 1):
        word = row.split(" ")[0]
        match = re.fullmatch(forms.get(word, "(?!)"), row)
        if match is None or word == "shut" and (found["party"] or found["seat"]) or word == "party" and found["seat"]:
            return at
        names = found[word]
        if word != "shut" and names and names[-1] >= match[1]:
            return at
        names.append(match[1])
        if len(names) > {"shut": 12, "party": 8, "seat": 8}[word]:
            return at
        if word == "seat" and match[1] not in found["party"]:
            return at
    return None


def order_text(order):
    text = order[0]
    for thing in order[1:]:
        text += " " + (thing if type(thing) is str else str(thing))
    return text


def is_order_text(text):
    """Whether it is written so, by patterns."""
    for word, many in WORDS.items():
        if re.fullmatch("%s(?: (?:[a-z]+|%s)){%d}" % (word, NUMBER, many), text):
            return True
    return False


def log_text(log):
    """The text of a told log, row by row."""
    rows = []
    for deed in log:
        if deed[0] == "close":
            rows.append("close %s %d %d %d %d" % deed[1:])
        else:
            rows.append(str(deed[0]) + " " + order_text(deed[1]))
    return "\n".join(rows)


def otherwise(chance, text, words):
    """The text with a sign, a word or a row of it otherwise, more, fewer, or in another place."""
    what = chance.randrange(9)
    if what < 3:
        at = chance.randrange(len(text) + 1)
        sign = chance.choice(SIGNS)
        return text[:at] + (sign if what else "") + text[at + (what != 2):]
    parts = re.split("([ \n])", text)
    rows = text.split("\n")
    at = chance.randrange(0, len(parts), 2)
    if what == 3:
        parts[at] = chance.choice(words)
        return "".join(parts)
    if what == 4:
        return "".join(parts[:at] + [chance.choice(words), chance.choice("  \n")] + parts[at:])
    if what == 5:
        return "".join(parts[:max(at - 1, 0)] + parts[at + 1:])
    at = chance.randrange(len(rows))
    if what == 6:
        return "\n".join(rows[:at] + rows[at + 1:])
    if what == 7:
        return "\n".join(rows[:at] + [chance.choice(rows)] + rows[at:])
    other = chance.randrange(len(rows))
    rows[at], rows[other] = rows[other], rows[at]
    return "\n".join(rows)
