import copy
import itertools
import unittest

import helping
from halforder.counting import count
from halforder.errors import NoOrder, TooMany
from halforder.neighbours import apart, near_list, sides, single_list, way_between
from halforder.orders import all_orders, is_order, order_of

# a ahead of b ahead of c, d untold with all.
HALF = (("d", "c", "a", "b"), (("b", "c"), ("a", "b"), ("a", "b")))
FIRST = ("d", "a", "b", "c")
LAST = ("a", "b", "c", "d")
# Two chains side by side: four orders on one side, two on the other.
TWO_CHAINS = (tuple("abcd"), (("a", "b"), ("c", "d")))
SIX_FREE = (tuple("fedcba"), ())
SMALL = helping.small_halves() + helping.four_name_halves()
LISTED = SMALL + helping.five_name_halves()
LARGE = [half for half in helping.large_halves() if count(half) <= 720] + [helping.LISTED_719, SIX_FREE]
UNLISTED = [half for half in helping.large_halves() if count(half) > 720] + [helping.UNLISTED_721]


def pairs_otherwise(one, other):
    pairs = itertools.combinations(one, 2)
    return sum(not helping.stands_ahead(other, a, b) for a, b in pairs)


def is_one_swap(one, other):
    unlike = [at for at in range(len(one)) if one[at] != other[at]]
    return len(unlike) == 2 and unlike[1] == unlike[0] + 1 and sorted(one) == sorted(other)


def has_single_list(orders):
    """Whether there is a list of all, each by one swap: for each part of them, which one a list of it may end with."""
    near = [[at for at, other in enumerate(orders) if is_one_swap(order, other)] for order in orders]
    ends = {(1 << at, at) for at in range(len(orders))}
    for _ in orders[1:]:
        ends = {(part | 1 << step, step) for part, at in ends for step in near[at] if not part >> step & 1}
    return len(ends) > 0


class TestApart(unittest.TestCase):
    def test_an_ordinary_half(self):
        self.assertEqual(apart(HALF, FIRST, LAST), 3)
        self.assertEqual(apart(HALF, LAST, FIRST), 3)
        self.assertEqual(apart(HALF, FIRST, ("a", "d", "b", "c")), 1)
        self.assertEqual(apart(HALF, FIRST, FIRST), 0)

    def test_edges(self):
        self.assertEqual(apart(helping.NONE, (), ()), 0)
        self.assertEqual(apart(helping.ONE, ("a",), ("a",)), 0)
        self.assertEqual(apart(helping.FREE, helping.TEN, helping.TEN[::-1]), 45)
        self.assertEqual(apart(helping.FREE, helping.TEN, helping.TEN[1:] + ("a",)), 9)
        self.assertEqual(apart(helping.ROW, helping.TEN, helping.TEN), 0)

    def test_against_pairs(self):
        for half in SMALL:
            for one, other in itertools.product(helping.orders(half), repeat=2):
                self.assertEqual(apart(half, one, other), pairs_otherwise(one, other), half)
        for half in UNLISTED:
            rows = [order_of(half, number) for number in (0, 1, count(half) // 2, count(half) - 1)]
            for one, other in itertools.product(rows, repeat=2):
                self.assertEqual(apart(half, one, other), pairs_otherwise(one, other), half)


class TestWayBetween(unittest.TestCase):
    def check_way(self, half, one, other):
        way = way_between(half, one, other)
        self.assertIs(type(way), tuple)
        self.assertTrue(all(type(order) is tuple for order in way))
        self.assertEqual((way[0], way[-1]), (one, other), half)
        self.assertEqual(len(way), pairs_otherwise(one, other) + 1, half)
        self.assertTrue(all(is_order(half, order) for order in way), half)
        self.assertTrue(all(is_one_swap(order, later) for order, later in zip(way, way[1:])), half)

    def test_an_ordinary_half(self):
        due = (FIRST, ("a", "d", "b", "c"), ("a", "b", "d", "c"), LAST)
        self.assertEqual(way_between(HALF, FIRST, LAST), due)
        self.assertEqual(way_between(HALF, LAST, FIRST), due[::-1])

    def test_two_orders_alike(self):
        self.assertEqual(way_between(HALF, LAST, LAST), (LAST,))
        self.assertEqual(way_between(helping.NONE, (), ()), ((),))
        self.assertEqual(way_between(helping.ROW, helping.TEN, helping.TEN), (helping.TEN,))

    def test_all_small_halves(self):
        for half in SMALL:
            for one, other in itertools.product(helping.orders(half), repeat=2):
                self.check_way(half, one, other)

    def test_large_halves(self):
        self.check_way(helping.FREE, helping.TEN, helping.TEN[::-1])
        for half in UNLISTED + LARGE:
            numbers = sorted({0, count(half) // 3, count(half) // 2, count(half) - 1})
            for one, other in itertools.product([order_of(half, number) for number in numbers], repeat=2):
                self.check_way(half, one, other)


class TestNoOrder(unittest.TestCase):
    def test_in_either_place(self):
        wrong = helping.wrong_orders(FIRST) + [("d", "b", "a", "c"), ("d", "a", "c", "b")] + list(helping.STRANGE)
        for function in (apart, way_between):
            for thing in wrong:
                for one, other in ((FIRST, thing), (thing, FIRST), (thing, thing)):
                    self.assertIsInstance(helping.refusal(function, HALF, one, other), NoOrder, thing)
            for thing in helping.STRANGE:
                self.assertIsInstance(helping.refusal(function, helping.NONE, thing, ()), NoOrder, thing)
                self.assertIsInstance(helping.refusal(function, helping.NONE, (), thing), NoOrder, thing)
            self.assertIsNone(helping.refusal(function, HALF, FIRST, LAST))


class TestSides(unittest.TestCase):
    def test_known_sides(self):
        self.assertEqual(sides(helping.NONE), (1, 0))
        self.assertEqual(sides(helping.ONE), (1, 0))
        self.assertEqual(sides(helping.ROW), (1, 0))
        self.assertEqual(sides((("a", "b"), ())), (1, 1))
        self.assertEqual(sides((("c", "a", "b"), (("a", "b"),))), (2, 1))
        self.assertEqual(sides(HALF), (2, 2))
        self.assertEqual(sides(TWO_CHAINS), (4, 2))
        self.assertEqual(sides((tuple("dbca"), TWO_CHAINS[1])), (4, 2))
        # Here the first one stands on the lesser side.
        self.assertEqual(sides((tuple("acbd"), TWO_CHAINS[1])), (2, 4))
        self.assertEqual(sides(SIX_FREE), (360, 360))

    def test_against_listing(self):
        for half in LISTED + LARGE:
            rows = all_orders(half)
            odd = sum(pairs_otherwise(rows[0], row) % 2 for row in rows)
            told = sides(half)
            self.assertEqual(told, (len(rows) - odd, odd), half)
            self.assertIs(type(told), tuple)


class TestNearList(unittest.TestCase):
    def check_near_list(self, half):
        told = near_list(half)
        self.assertIs(type(told), list)
        self.assertTrue(all(type(order) is tuple for order in told))
        self.assertEqual(len(told), len(set(told)), half)
        self.assertEqual(set(told), set(all_orders(half)), half)
        for order, later in zip(told, told[1:]):
            self.assertIn(pairs_otherwise(order, later), (1, 2, 3), half)

    def test_edges(self):
        self.assertEqual(near_list(helping.NONE), [()])
        self.assertEqual(near_list(helping.ONE), [("a",)])
        self.assertEqual(near_list(helping.ROW), [helping.TEN])
        self.check_near_list(TWO_CHAINS)

    def test_small_and_large_halves(self):
        for half in LISTED + LARGE:
            self.check_near_list(half)

    def test_a_told_list_may_be_changed(self):
        told = near_list(HALF)
        kept = list(told)
        told.pop()
        told.insert(0, "more")
        self.assertEqual(sorted(near_list(HALF)), sorted(kept))
        self.check_near_list(HALF)


class TestSingleList(unittest.TestCase):
    def check_single_list(self, half):
        told = single_list(half)
        self.assertIs(type(told), tuple)
        even, odd = sides(half)
        if abs(even - odd) > 1:
            self.assertEqual(told, ("none", even, odd), half)
        elif told != ("open",):
            self.assertEqual((told[0], len(told)), ("list", 2), half)
            self.assertIs(type(told[1]), list)
            self.assertTrue(all(type(order) is tuple for order in told[1]))
            self.assertEqual(len(told[1]), len(set(told[1])), half)
            self.assertEqual(set(told[1]), set(all_orders(half)), half)
            self.assertTrue(all(is_one_swap(order, later) for order, later in zip(told[1], told[1][1:])), half)
        else:
            self.assertGreater(len(half[1]), 0, half)
            self.assertFalse(count(half) <= 12 and has_single_list(all_orders(half)), half)
        return told[0]

    def test_edges(self):
        self.assertEqual(single_list(helping.NONE), ("list", [()]))
        self.assertEqual(single_list(helping.ONE), ("list", [("a",)]))
        self.assertEqual(single_list(helping.ROW), ("list", [helping.TEN]))
        self.assertEqual(single_list(helping.FULL), ("list", [helping.TEN]))

    def test_no_two_told(self):
        for size in range(7):
            self.assertEqual(self.check_single_list((tuple("dbafce"[:size]), ())), "list")

    def test_sides_that_differ_by_more_than_one(self):
        self.assertEqual(single_list(TWO_CHAINS), ("none", 4, 2))
        self.assertEqual(single_list((tuple("acbd"), TWO_CHAINS[1])), ("none", 2, 4))
        self.assertEqual(self.check_single_list(helping.GRID), "none")

    def test_sides_that_differ_by_one(self):
        half = (("c", "a", "b"), (("a", "b"),))
        self.assertEqual(sides(half), (2, 1))
        self.assertEqual(self.check_single_list(half), "list")

    def test_a_list_that_does_not_begin_with_the_first_order(self):
        half = (("a", "c", "b"), (("a", "b"),))
        self.assertEqual(all_orders(half)[0], ("a", "c", "b"))
        self.assertEqual(self.check_single_list(half), "list")

    def test_small_and_large_halves(self):
        words = [self.check_single_list(half) for half in LISTED + LARGE]
        self.assertIn("none", words)
        self.assertGreater(words.count("list"), 100)

    def test_at_most_twelve_orders(self):
        few = [half for half in LISTED + LARGE if count(half) <= 12]
        self.assertEqual({count(half) for half in few}, {1, 2, 3, 4, 5, 6, 7, 8, 9, 10, 11, 12})
        for half in few:
            self.assertIs(single_list(half)[0] == "list", has_single_list(all_orders(half)), half)

    def test_a_told_list_may_be_changed(self):
        for half in (HALF, (tuple("cab"), ())):
            single_list(half)[1].clear()
            self.assertEqual(self.check_single_list(half), "list")


class TestTooMany(unittest.TestCase):
    def test_more_than_720(self):
        for half in UNLISTED:
            for function in (sides, near_list, single_list):
                refused = helping.refusal(function, half)
                self.assertIsInstance(refused, TooMany)
                self.assertEqual(refused.word, "orders")


class TestNothingIsChanged(unittest.TestCase):
    def test_what_is_handed_in_stays(self):
        for thing in (["d", "a", "b", "c"], ("d", ["a"], {"b": []}, "c"), {"d": ["a"]}, LAST):
            half = copy.deepcopy(HALF)
            kept = copy.deepcopy(thing)
            for function in (apart, way_between):
                helping.refusal(function, half, thing, FIRST)
                helping.refusal(function, half, FIRST, thing)
                self.assertEqual((half, thing), (HALF, kept))

    def test_halves_stay(self):
        for half in (HALF, TWO_CHAINS, helping.GRID, helping.NONE):
            kept = copy.deepcopy(half)
            first = sides(half)
            near_list(half)
            single_list(half)
            self.assertEqual(half, kept)
            self.assertEqual(sides(half), first)


if __name__ == "__main__":
    unittest.main()
