"""Things of any kind, for the functions that answer of anything."""


def nested(make, deep):
    """A thing so many within one another, each made of the one inside it."""
    thing = make(None)
    for step in range(deep - 1):
        thing = make(thing)
    return thing


def as_list(thing):
    return [thing]


def as_tuple(thing):
    return (thing,)


def as_dict(thing):
    return {"a": thing}


# None of these is a name, a number that a room, a sheet or a paper may hold, or a tuple of anything in them.
NEVER = [
    None, True, False, -1, 10 ** 60 - 1, -(10 ** 60 - 1),
    "", " ", "A", "Anna", "a b", "a1", "5", "a\n", "\n", "abcdefghi", "~", "{", "`", "a" * 4000,
    [], ["a"], [1, 2], [("a", 4)], {}, {"a": 4}, {1: None}, {("a",): ["b"]},
    (None,), ((),), (True,), ("a", "a"), (1, 2, 3, 4, 5), ((("a",),),),
    nested(as_list, 40), nested(as_tuple, 40), nested(as_dict, 40),
    [0] * 2000, (0,) * 2000, {number: number for number in range(1000)}, tuple(["a"] * 2000),
]

# These are what a room, a sheet or a paper may hold in some places.
SOMETIMES = [0, 1, 2, 4, 60, (), "a", "b", "anna", ("a",), ("a", "b"), ("a", 4), ("a", 0, 1), ("anna", ("a",)),
             (("a", 4),), ((("a", 4),),), "crowd", "seat", "cases", "moves"]

ANYTHING = NEVER + SOMETIMES


def put(thing, way, new):
    """The thing with new at the place that the way of indexes leads to."""
    if not way:
        return new
    first = way[0]
    return thing[:first] + (put(thing[first], way[1:], new),) + thing[first + 1:]


def ways_into(thing):
    """The ways to all places of a tuple, itself the first one."""
    found = [()]
    if isinstance(thing, tuple):
        for at, inner in enumerate(thing):
            found.extend((at,) + way for way in ways_into(inner))
    return found


def at_way(thing, way):
    for step in way:
        thing = thing[step]
    return thing


def spoilt(thing, others):
    """The thing with one place of it otherwise: each place by each of the others, each tuple as a list."""
    for way in ways_into(thing):
        for other in others:
            yield put(thing, way, other)
        if isinstance(at_way(thing, way), tuple):
            yield put(thing, way, list(at_way(thing, way)))


def cut_or_grown(thing):
    """The thing with one of its tuples one shorter at an end, one longer, or turned about."""
    for way in ways_into(thing):
        inner = at_way(thing, way)
        if isinstance(inner, tuple):
            changes = [inner[:-1], inner[1:], inner + inner[-1:], inner + (None,), inner[::-1]]
            for change in changes:
                if change != inner:
                    yield put(thing, way, change)
