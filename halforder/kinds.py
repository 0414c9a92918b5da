"""Kinds of plain things that papers are made of."""


# Truths are whole numbers to Python, but not here.
def is_whole(thing):
    return isinstance(thing, int) and not isinstance(thing, bool)


def is_tuple_of(thing, size):
    return isinstance(thing, tuple) and len(thing) == size
