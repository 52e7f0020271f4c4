"""What several files ask of a thing that may be anything."""


def is_whole(thing):
    # Python counts True and False as ints.
    return isinstance(thing, int) and not isinstance(thing, bool)


def is_within(thing, least, most):
    return is_whole(thing) and least <= thing <= most


def is_tuple(thing, least, most):
    return isinstance(thing, tuple) and least <= len(thing) <= most


def is_rising(texts):
    """Whether each text is greater than the one ahead of it, so that no two are alike."""
    return all(one < other for one, other in zip(texts, texts[1:]))
