"""Names: texts of one to eight small letters."""

SMALL_LETTERS = "abcdefghijklmnopqrstuvwxyz"
MOST_SIGNS = 8


def is_name(thing):
    if not isinstance(thing, str):
        return False
    if len(thing) < 1 or len(thing) > MOST_SIGNS:
        return False
    return all([sign in SMALL_LETTERS for sign in thing])


# Without a bound on how many there are: not each tuple of unlike names is a tale's.
def are_unlike_names(thing):
    if not isinstance(thing, tuple):
        return False
    if not all([is_name(name) for name in thing]):
        return False
    return len(set(thing)) == len(thing)
