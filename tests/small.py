"""Small rooms and sheets, and what the document says of them, gone through anew without the program."""

import itertools
import random


def stands_in(room):
    """All (stand, places), in the order of point [11]."""
    rows, lost = room
    found = []
    for at_row, row in enumerate(rows):
        for first in range(len(row)):
            for many in (1, 2, 3):
                run = row[first:first + many]
                places = sum(table[1] for table in run) - lost * (many - 1)
                if len(run) == many and places > 0:
                    found.append(((many, at_row, first), tuple(table[0] for table in run), places))
    return [(stand, places) for order, stand, places in sorted(found)]


def hours_of(begin, stay):
    return set(range(begin, begin + stay))


def open_to(room, sheet, name, stand):
    """Point [14], clause by clause."""
    hours, shuts, parties, seats = sheet
    party = {row[0]: row for row in parties}
    own = hours_of(party[name][2], party[name][3])
    if dict(stands_in(room))[stand] < party[name][1]:
        return False
    if any(table in stand and hours_of(begin, stay) & own for table, begin, stay in shuts):
        return False
    for other, seat in seats:
        if other != name and hours_of(party[other][2], party[other][3]) & own and set(seat) & set(stand):
            return False
    return dict(seats).get(name, stand) == stand


def stands_open_to(room, sheet, name):
    return [stand for stand, places in stands_in(room) if open_to(room, sheet, name, stand)]


def clash(one, one_stand, other, other_stand):
    return bool(hours_of(one[2], one[3]) & hours_of(other[2], other[3]) and set(one_stand) & set(other_stand))


def dealings_of(room, sheet):
    """Every dealing of the sheet."""
    choices = [(party, stands_open_to(room, sheet, party[0])) for party in sheet[2]]
    yield from dealings_from((), choices)


def dealings_from(dealt, choices):
    """Every dealing that begins with those that are dealt, as (party, stand) each."""
    if not choices:
        yield tuple((party[0], stand) for party, stand in dealt)
        return
    party, stands = choices[0]
    for stand in stands:
        if not any(clash(party, stand, *other) for other in dealt):
            yield from dealings_from(dealt + ((party, stand),), choices[1:])


def moves_in(sheet, old, dealing):
    """How many parties without a seat have other stands in old than in the dealing."""
    seated, before = dict(sheet[3]), dict(old)
    return sum(name not in seated and before.get(name, stand) != stand for name, stand in dealing)


def has_dealing(room, sheet, old, spare):
    """Whether there is a dealing, for a spare one that moves no more."""
    return any(spare is None or moves_in(sheet, old, dealing) <= spare for dealing in dealings_of(room, sheet))


def seated(sheet, name, stand):
    return sheet[:3] + (tuple(sorted(sheet[3] + ((name, stand),))),)


def without_seat(sheet):
    return [party[0] for party in sheet[2] if party[0] not in dict(sheet[3])]


def case_paper(room, sheet, old, spare):
    """A paper of cases and seats that goes through all there is, or None where a dealing is left."""
    for name, stand in sheet[3]:
        if not open_to(room, sheet, name, stand):
            return ("seat", name)
    waiting = without_seat(sheet)
    if not waiting:
        return None
    name = waiting[0]
    rows = []
    for stand in stands_open_to(room, sheet, name):
        moved = dict(old).get(name, stand) != stand
        if spare == 0 and moved:
            continue
        left = spare - 1 if spare is not None and moved else spare
        paper = case_paper(room, seated(sheet, name, stand), old, left)
        if paper is None:
            return None
        rows.append((stand, paper))
    return ("cases", name, tuple(rows))


def subsets(names):
    for many in range(len(names) + 1):
        yield from itertools.combinations(sorted(names), many)


def crowd_bars(room, sheet, hour, guests, tables):
    """The crowd of point [17]; hour, guests and tables are of the right form."""
    there = [party for party in sheet[2] if hour in hours_of(party[2], party[3])]
    crowd = [party for party in there if party[0] not in dict(sheet[3]) and party[1] >= guests]
    gone = {shut[0] for shut in sheet[1] if hour in hours_of(shut[1], shut[2])}
    for party in there:
        gone |= set(dict(sheet[3]).get(party[0], ()))
    left = [set(stand) for stand, places in stands_in(room) if places >= guests and not gone & set(stand)]
    return len(crowd) > len(tables) and all(stand & set(tables) for stand in left)


def some_room(chance):
    names = list("abcd")
    chance.shuffle(names)
    names = names[:chance.randint(1, 4)]
    cut = chance.randint(1, len(names))
    rows = [row for row in (names[:cut], names[cut:]) if row]
    return (tuple(tuple((name, chance.randint(1, 5)) for name in row) for row in rows), chance.randint(0, 3))


def some_span(chance, hours):
    begin = chance.randrange(hours)
    return begin, chance.randint(1, hours - begin)


def some_seats(chance, room, names, share):
    stands = [stand for stand, places in stands_in(room)]
    return tuple((name, chance.choice(stands)) for name in sorted(names) if chance.random() < share)


def some_sheet(chance, room, most=6):
    hours = chance.randint(1, 3)
    tables = [table[0] for row in room[0] for table in row]
    shuts = tuple((chance.choice(tables),) + some_span(chance, hours) for step in range(chance.randint(0, 2)))
    names = ["anna", "bob", "carl", "dora"][:chance.randint(1, 4)]
    parties = tuple((name, chance.randint(1, most)) + some_span(chance, hours) for name in names)
    return (hours, shuts, parties, some_seats(chance, room, names, chance.choice((0, 0, 0.3))))


def small_cases(many, seed, most=6):
    """So many (room, sheet, old), the same ones each time; parties of at most so many guests."""
    chance = random.Random(seed)
    for step in range(many):
        room = some_room(chance)
        sheet = some_sheet(chance, room, most)
        yield room, sheet, some_seats(chance, room, ["aaa", "anna", "bob", "carl", "dora"], 0.6)


def has_crowd(room, sheet):
    """Whether some crowd bars the sheet, of all hours, numbers of guests and sets of tables."""
    tables = [table[0] for row in room[0] for table in row]
    most = max([party[1] for party in sheet[2]], default=0)
    for hour, guests in itertools.product(range(sheet[0]), range(1, most + 1)):
        if any(crowd_bars(room, sheet, hour, guests, some) for some in subsets(tables)):
            return True
    return False


def cases_bar(room, sheet, old, spare, name, rows):
    """The cases of point [17], of a paper that is of the right form."""
    if name not in without_seat(sheet):
        return False
    due = []
    for stand in stands_open_to(room, sheet, name):
        moved = dict(old).get(name, stand) != stand
        if not (moved and spare == 0):
            due.append((stand, spare - 1 if moved and spare is not None else spare))
    if [row[0] for row in rows] != [stand for stand, left in due]:
        return False
    return all(paper_bars(room, seated(sheet, name, row[0]), old, left, row[1])
               for row, (stand, left) in zip(rows, due))


def moves_bar(room, sheet, old, spare, names):
    """The moves of point [17], of a paper that is of the right form."""
    due = [name for name in without_seat(sheet)
           if name in dict(old) and not open_to(room, sheet, name, dict(old)[name])]
    return spare is not None and len(names) > spare and list(names) == sorted(set(names)) and set(names) <= set(due)


def paper_bars(room, sheet, old, spare, paper):
    """Point [17] anew, of a paper that is of the right form."""
    word = paper[0]
    if word == "crowd":
        return list(paper[3]) == sorted(set(paper[3])) and crowd_bars(room, sheet, *paper[1:])
    if word == "seat":
        return paper[1] in dict(sheet[3]) and not open_to(room, sheet, paper[1], dict(sheet[3])[paper[1]])
    if word == "cases":
        return cases_bar(room, sheet, old, spare, paper[1], paper[2])
    return word == "moves" and moves_bar(room, sheet, old, spare, paper[1])


def is_plain(thing):
    """Whether it is made of tuples, whole numbers and texts alone."""
    if type(thing) is tuple:
        return all(is_plain(inner) for inner in thing)
    return type(thing) in (int, str)


def fewest_in(room, sheet, old):
    """The fewest that any dealing moves, or None where there is none."""
    return min((moves_in(sheet, old, dealing) for dealing in dealings_of(room, sheet)), default=None)


def fewest_by_steps(room, sheet, old):
    """As fewest_in, but leaves those out that move no fewer than one that was found."""
    choices = [(party, stands_open_to(room, sheet, party[0])) for party in sheet[2]]
    return fewest_from((), choices, dict(old), 0, None)


def fewest_from(dealt, choices, before, many, best):
    if best is not None and many >= best:
        return best
    if not choices:
        return many
    party, stands = choices[0]
    kept = before.get(party[0])
    for stand in sorted(stands, key=lambda one: one != kept):
        if not any(clash(party, stand, *other) for other in dealt):
            more = many + (kept not in (None, stand))
            best = fewest_from(dealt + ((party, stand),), choices[1:], before, more, best)
    return best
