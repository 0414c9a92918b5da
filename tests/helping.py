"""What several tests need: small and large halves, strange things, and who is ahead, found by listing orders."""

import functools
import itertools

from halforder.errors import HalfError

LETTERS = "abcdefghijkl"
TEN = tuple(LETTERS[:10])
ELEVEN = tuple(LETTERS[:11])

# Forty-five unlike sayings without a ring, and fifteen of them once more.
RISING_SAYINGS = tuple(itertools.combinations(TEN, 2))
SIXTY = RISING_SAYINGS + RISING_SAYINGS[:15]
SIXTY_ONE = SIXTY + RISING_SAYINGS[:1]

NONE = ((), ())
ONE = (("a",), ())
FREE = (TEN, ())
ROW = (TEN, tuple(zip(TEN, TEN[1:])))
FULL = (TEN[::-1], SIXTY)
# Of ten names by turns ahead and behind: no chain has three.
ZIGZAG = (TEN, tuple(zip("acceeggii", "bbddffhhj")))
# Two and five rows of names, each ahead of those to the right of it and below.
GRID = (TEN, tuple(zip("abcdfghi", "bcdeghij")) + tuple(zip("abcde", "fghij")))
# A forest: no name has two bare pairs of which it is the other.
FOREST = (tuple("jihgfedcba"), tuple(zip("aabbceeg", "bcdhgfij")))

# One order less than are listed at most, and one more.
LISTED_719 = (tuple("hgfedcba"), tuple(zip("aabcceee", "bgdfgfgh")))
UNLISTED_721 = (tuple("ihgfedcba"), tuple(zip("abbcdefg", "ceigffhh")))

# A fence that closes, d over a, a under b under e, e over c, c under d: eight orders, but three askings are too few.
CLOSED_FENCE = (("d", "b", "e", "a", "c"), (("b", "e"), ("a", "d"), ("a", "b"), ("c", "d"), ("c", "e")))
OPEN_FENCE = (tuple("abcde"), tuple(zip("acce", "bbdd")))
# Sixty orders, of which eight askings are needed: the longest bound papers were found for such.
EIGHT_ASKINGS = (
    (TEN, tuple(zip("aabbccddeffghh", "bcdfefehgghiij"))), (TEN[::-1], tuple(zip("aabbccddeffgh", "dfcdefejggjhi"))),
)
# As many orders as least plans are told of, and one more.
SIXTY_ORDERS = (("e", "a", "d", "b", "c"), (("b", "e"),))
SIXTY_ONE_ORDERS = (tuple("abcdefghi"), tuple(zip("aabcdddeefgg", "fgcdefghiihi")))

# Plain things that are nothing which is asked for, of whatever half.
STRANGE = (
    None, True, False, 0, 1, -1, 10 ** 39, "", "a", "ab", "abc", [], ["a"], ["a", "b"], [["a"], ["b"]], [("a",)],
    {}, {"a": "b"}, {"a": True}, (None,), (True,), (0,), (1,), ("",), ("zz",), ("A",), (["a"],), ({"a": "b"},), ({},),
    ([],), ("a", None), ("a", ["b"]), ("a", {}), ("a", "a"), (("a",), ["b"]), (("a",), ()), (("a",), None), ((),),
    ((), ()), ((("a",),),), (("a", "a"),), (("a",), ("a",)), (("zz",),), (("a",), ("zz",)), ((["a"],),),
)


def subsets(things):
    for size in range(len(things) + 1):
        yield from itertools.combinations(things, size)


def small_tales():
    """Every tale of the names c, a, b with each possible saying at most once, and those of fewer names."""
    for names in ((), ("a",), ("b", "a"), ("c", "a", "b")):
        for sayings in subsets(list(itertools.product(names, repeat=2))):
            yield (names, sayings)


def four_name_tales():
    """Every tale of four names with each saying of two unlike ones at most once."""
    names = ("c", "a", "d", "b")
    for sayings in subsets(list(itertools.permutations(names, 2))):
        yield (names, sayings)


def orders(tale):
    """All orders of a tale, by trying each row of its names; none where it has a ring."""
    found = []
    for row in itertools.permutations(tale[0]):
        if all(row.index(one) < row.index(other) for one, other in tale[1]):
            found.append(row)
    return found


def ahead_in_all(half):
    """The pairs that stand the same way about in each order: just those of which the one is ahead."""
    rows = orders(half)
    pairs = itertools.permutations(half[0], 2)
    return {(one, other) for one, other in pairs if all(row.index(one) < row.index(other) for row in rows)}


def small_halves():
    return [tale for tale in small_tales() if orders(tale)]


def four_name_halves():
    return [tale for tale in four_name_tales() if orders(tale)]


def five_name_halves():
    """Halves of five names: up to what the names are called, each one is among them."""
    names = ("d", "b", "e", "a", "c")
    return [(names, sayings) for sayings in subsets(list(itertools.combinations("abcde", 2)))]


def patterned(names, times, part):
    """A half of these names, of which some of the pairs that stand in order are sayings."""
    pairs = itertools.combinations(range(len(names)), 2)
    return (names, tuple((names[i], names[j]) for i, j in pairs if (times * i + j * j) % part == 0))


def large_halves():
    """Halves of six to ten names, thick and thin ones."""
    found = [FREE, ROW, FULL, ZIGZAG, GRID, FOREST]
    for size in range(6, 11):
        names = tuple("jchbidgaef"[:size])
        found.extend(patterned(names, times, part) for times in (1, 3, 4) for part in (2, 3, 5, 7))
    return found


def closed_by_sayings(half):
    """Who is ahead of whom, by going on from sayings until nothing new comes."""
    pairs = set(half[1])
    while True:
        more = {(a, d) for a, b in pairs for c, d in pairs if b == c} - pairs
        if not more:
            return pairs
        pairs |= more


def stands_ahead(row, one, other):
    return row.index(one) < row.index(other)


def put_above(one, other):
    return (one[0] + other[0], one[1] + other[1] + tuple(itertools.product(one[0], other[0])))


def put_beside(one, other):
    return (one[0] + other[0], one[1] + other[1])


def refusal(function, *things):
    """The refusal that comes, None where something is told."""
    try:
        function(*things)
    except HalfError as refused:
        return refused
    return None


def strange_deep(depth):
    """A tuple within a tuple, as deep as plain things may be."""
    thing = "a"
    for _ in range(depth):
        thing = (thing,)
    return thing


def wrong_orders(order):
    """Things that are like an order of three names or more, but none."""
    one, other = order[0], order[1]
    return [
        list(order), "".join(order), {name: True for name in order}, dict(enumerate(order)), (order,), [order],
        order[1:], order[:-1], (), order + (one,), order + ("zz",), (one,) + order, (one, one) + order[2:],
        ("zz",) + order[1:], order[:-1] + ("zz",), (one.upper(),) + order[1:], ([one],) + order[1:],
        ((one,),) + order[1:], ({one: other},) + order[1:], (None,) + order[1:], (True,) + order[1:],
        (0,) + order[1:], order[:-1] + (None,), order[:-1] + ([],), order[:-1] + ({},), tuple(range(len(order))),
        tuple([name] for name in order), strange_deep(90), order[:-1] + (strange_deep(89),),
    ]


def variants(thing):
    """Things in the place of one: other kinds, more, fewer, twice, turned about, lists for tuples."""
    yield from (None, True, False, 0, 1, 2, -1, 10 ** 39, "", "a", "b", "c", "row", "last", "A", [], {}, (), (0,))
    yield from (("a",), [thing], (thing,), {"a": thing})
    if isinstance(thing, tuple):
        yield from (list(thing), dict(enumerate(thing)), thing + thing, thing[::-1], thing + (0,), thing + ("a",))
        for place in range(len(thing)):
            yield thing[:place] + thing[place + 1:]
            yield thing[:place] + thing[place:place + 1] + thing[place:]
    if type(thing) is int:
        yield from (thing + 1, thing - 1, bool(thing), str(thing))


def changed(thing):
    """All variants of a thing and of each thing in it, at every depth."""
    yield from variants(thing)
    if isinstance(thing, tuple):
        for place, part in enumerate(thing):
            for other in changed(part):
                yield thing[:place] + (other,) + thing[place + 1:]


def whole(thing):
    return type(thing) is int


def unlike_names(thing):
    if type(thing) is not tuple or not all(type(name) is str and name.isalpha() for name in thing):
        return False
    return all(name.islower() and len(name) < 9 for name in thing) and len(set(thing)) == len(thing)


def half_by_words(thing):
    """The closed pairs of a half as a set, with its names; None of what is none."""
    if type(thing) is not tuple or len(thing) != 2 or not unlike_names(thing[0]) or len(thing[0]) > 10:
        return None
    if type(thing[1]) is not tuple or len(thing[1]) > 60:
        return None
    for saying in thing[1]:
        if type(saying) is not tuple or len(saying) != 2 or not all(type(name) is str for name in saying):
            return None
        if not set(saying) <= set(thing[0]):
            return None
    pairs = closed_by_sayings(thing)
    return None if any(one == other for one, other in pairs) else (thing[0], pairs)


def same(one, other):
    return set(one[0]) == set(other[0]) and one[1] == other[1]


def said_more(half, pair):
    return (half[0], closed_by_sayings((half[0], tuple(half[1]) + (pair,))))


def plan_by_pairs(half, pairs):
    """A plan that asks the first of the pairs that is untold, and so on; pairs of all names lead to each order."""
    told = closed_by_sayings(half)
    for one, other in pairs:
        if one != other and not {(one, other), (other, one)} & told:
            parts = [plan_by_pairs((half[0], tuple(told) + (pair,)), pairs) for pair in ((one, other), (other, one))]
            return ("ask", one, other) + tuple(parts)
    return ("end", tuple(sorted(half[0], key=lambda name: sum(other == name for one, other in told))))


def depth_by_words(plan):
    return 0 if plan[0] == "end" else 1 + max(depth_by_words(plan[3]), depth_by_words(plan[4]))


def ends_of(plan, askings=0):
    """The ends of a plan from first to second, each with how many askings lead to it."""
    if plan[0] == "end":
        return [(plan[1], askings)]
    return ends_of(plan[3], askings + 1) + ends_of(plan[4], askings + 1)


def parted(rows):
    """For each pair of names that these orders leave untold, rising: the pair and the orders of both answers."""
    found = []
    for one, other in itertools.combinations(sorted(min(rows)), 2):
        first = frozenset(row for row in rows if stands_ahead(row, one, other))
        if first and first != rows:
            found.append(((one, other), first, rows - first))
    return found


@functools.lru_cache(maxsize=None)
def least_depth(rows):
    """The least depth of a plan that leads to each of these orders, by trying all; rows: a frozenset of orders."""
    parts = parted(rows)
    return 1 + min(max(least_depth(first), least_depth(second)) for pair, first, second in parts) if parts else 0
