"""What several tests need: all small tales, and who is ahead, found by listing orders."""

import itertools

LETTERS = "abcdefghijkl"
TEN = tuple(LETTERS[:10])
ELEVEN = tuple(LETTERS[:11])

# Forty-five unlike sayings without a ring, and fifteen of them once more.
RISING_SAYINGS = tuple(itertools.combinations(TEN, 2))
SIXTY = RISING_SAYINGS + RISING_SAYINGS[:15]
SIXTY_ONE = SIXTY + RISING_SAYINGS[:1]


def subsets(things):
    for size in range(len(things) + 1):
        yield from itertools.combinations(things, size)


def small_tales():
    """Every tale of the names c, a, b with each possible saying at most once, and those of fewer names."""
    for names in ((), ("a",), ("b", "a"), ("c", "a", "b")):
        for sayings in subsets(list(itertools.product(names, repeat=2))):
            yield (names, sayings)


def four_name_tales():
    """Every tale of four names with each saying of two unlike ones at most once."""
    names = ("c", "a", "d", "b")
    for sayings in subsets(list(itertools.permutations(names, 2))):
        yield (names, sayings)


def orders(tale):
    """All orders of a tale, by trying each row of its names; none where it has a ring."""
    found = []
    for row in itertools.permutations(tale[0]):
        if all(row.index(one) < row.index(other) for one, other in tale[1]):
            found.append(row)
    return found


def ahead_in_all(half):
    """The pairs that stand the same way about in each order: just those of which the one is ahead."""
    rows = orders(half)
    pairs = itertools.permutations(half[0], 2)
    return {(one, other) for one, other in pairs if all(row.index(one) < row.index(other) for row in rows)}


def small_halves():
    return [tale for tale in small_tales() if orders(tale)]


def four_name_halves():
    return [tale for tale in four_name_tales() if orders(tale)]
