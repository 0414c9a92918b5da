import copy
import itertools
import math
import unittest

import helping
from halforder.bounds import by_behind, by_cover, by_layers
from halforder.bunches import cover
from halforder.closures import bare
from halforder.counting import count
from halforder.errors import NoCover

# a ahead of b ahead of c, d ahead of c.
HALF = (("d", "c", "a", "b"), (("b", "c"), ("a", "b"), ("a", "b"), ("d", "c")))
ALL = (
    helping.small_halves() + helping.four_name_halves() + helping.five_name_halves() + helping.large_halves()
)


def singles(half):
    return tuple((name,) for name in half[0])


def is_forest(half):
    others = [other for one, other in bare(half)]
    return len(others) == len(set(others))


def all_covers(half):
    """Covers of which each chain is some names in a row of each part of the names."""
    found = []
    pairs = helping.ahead_in_all(half)
    for row in itertools.permutations(half[0]):
        for cuts in helping.subsets(range(1, len(row))):
            ends = (0,) + cuts + (len(row),)
            chains = tuple(row[start:end] for start, end in zip(ends, ends[1:]))
            if all(chain and set(zip(chain, chain[1:])) <= pairs for chain in chains):
                found.append(chains)
    return found


class TestByLayers(unittest.TestCase):
    def test_ordinary_halves(self):
        self.assertEqual(by_layers(HALF), 2)
        self.assertEqual(by_layers(helping.ZIGZAG), math.factorial(5) ** 2)
        self.assertEqual(by_layers(helping.GRID), 2 ** 4)

    def test_edges(self):
        self.assertEqual(by_layers(helping.NONE), 1)
        self.assertEqual(by_layers(helping.ONE), 1)
        self.assertEqual(by_layers(helping.FREE), math.factorial(10))
        self.assertEqual(by_layers(helping.ROW), 1)
        self.assertEqual(by_layers(helping.FULL), 1)

    def test_no_count_is_less(self):
        for half in ALL:
            self.assertLessEqual(by_layers(half), count(half), half)

    def test_layers_one_above_another_reach_it(self):
        half = helping.put_above((tuple("abc"), ()), helping.put_above((tuple("fg"), ()), (tuple("vwxyz"), ())))
        self.assertEqual(by_layers(half), count(half))


class TestByCover(unittest.TestCase):
    def test_an_ordinary_half(self):
        self.assertEqual(by_cover(HALF, (("d", "c"), ("a", "b"))), 6)
        self.assertEqual(by_cover(HALF, (("d",), ("a", "b", "c"))), 4)
        self.assertEqual(by_cover(HALF, (("b",), ("a", "c"), ("d",))), 12)
        self.assertEqual(by_cover(HALF, singles(HALF)), 24)

    def test_edges(self):
        self.assertEqual(by_cover(helping.NONE, ()), 1)
        self.assertEqual(by_cover(helping.ONE, (("a",),)), 1)
        self.assertEqual(by_cover(helping.FREE, singles(helping.FREE)), math.factorial(10))
        self.assertEqual(by_cover(helping.ROW, (helping.TEN,)), 1)
        self.assertEqual(by_cover(helping.ROW, singles(helping.ROW)), math.factorial(10))
        self.assertEqual(by_cover(helping.FULL, (helping.TEN[::2], helping.TEN[1::2])), math.comb(10, 5))

    def test_chains_side_by_side_reach_it(self):
        half = (helping.TEN, helping.ROW[1][:2] + helping.ROW[1][3:6] + helping.ROW[1][7:])
        self.assertEqual(by_cover(half, cover(half)), count(half))

    def test_no_count_is_greater(self):
        for half in ALL:
            self.assertGreaterEqual(by_cover(half, cover(half)), count(half), half)
            self.assertGreaterEqual(by_cover(half, singles(half)), count(half), half)
        for half in helping.small_halves() + helping.four_name_halves()[::5]:
            for chains in all_covers(half):
                told = by_cover(half, chains)
                due = math.factorial(len(half[0])) // math.prod(math.factorial(len(chain)) for chain in chains)
                self.assertEqual(told, due, (half, chains))
                self.assertGreaterEqual(told, count(half), (half, chains))

    def test_what_is_no_cover(self):
        things = [
            (), (("d", "c"), ("a",)), (("d", "c"), ("a", "b"), ("a",)), (("c", "d"), ("a", "b")),
            (("d", "c"), ("b", "a")), (("d", "c"), ("a", "b"), ()), (("d", "c"), ("a", "z")),
            (("d", "c"), ("a", "b"), ("z",)), ("d", "c", "a", "b"), [("d", "c"), ("a", "b")],
            (["d", "c"], ("a", "b")), ("dc", "ab"), {("d", "c"): True, ("a", "b"): True},
            (("d", "c"), ("a", "b"), None), (("d", "a"), ("b", "c")), helping.strange_deep(90),
        ]
        for thing in things + list(helping.STRANGE):
            self.assertIsInstance(helping.refusal(by_cover, HALF, thing), NoCover, thing)
        for thing in helping.STRANGE:
            self.assertIsInstance(helping.refusal(by_cover, helping.NONE, thing), NoCover, thing)
            self.assertIsInstance(helping.refusal(by_cover, helping.FREE, thing), NoCover, thing)


class TestByBehind(unittest.TestCase):
    def test_ordinary_halves(self):
        # 24 divided by 3 * 2 * 1 * 2.
        self.assertEqual(by_behind(HALF), 2)
        # 6 divided by 2 * 2 leaves something over.
        self.assertEqual(by_behind((tuple("abc"), (("a", "c"), ("b", "c")))), 2)
        self.assertEqual(by_behind((tuple("abcd"), (("a", "c"), ("b", "c"), ("d", "c")))), 3)
        self.assertEqual(by_behind((tuple("abcde"), (("a", "d"), ("b", "d"), ("c", "d"), ("d", "e")))), 3)
        self.assertEqual(by_behind(helping.FOREST), 9600)

    def test_edges(self):
        self.assertEqual(by_behind(helping.NONE), 1)
        self.assertEqual(by_behind(helping.ONE), 1)
        self.assertEqual(by_behind(helping.FREE), math.factorial(10))
        self.assertEqual(by_behind(helping.ROW), 1)
        self.assertEqual(by_behind(helping.FULL), 1)

    def test_the_least_whole_number(self):
        for half in ALL:
            pairs = helping.closed_by_sayings(half)
            divisor = math.prod(1 + sum(one == name for one, other in pairs) for name in half[0])
            told = by_behind(half)
            self.assertGreaterEqual(told * divisor, math.factorial(len(half[0])), half)
            self.assertLess((told - 1) * divisor, math.factorial(len(half[0])), half)

    def test_no_count_is_less(self):
        for half in ALL:
            self.assertLessEqual(by_behind(half), count(half), half)

    def test_forests_reach_it(self):
        forests = [half for half in ALL if is_forest(half)]
        self.assertGreater(len(forests), 100)
        self.assertIn(helping.FOREST, forests)
        for half in forests:
            self.assertEqual(by_behind(half), count(half), half)


class TestKindsAndNothingChanged(unittest.TestCase):
    def test_kinds(self):
        for half in (HALF, helping.NONE, helping.ZIGZAG):
            for told in (by_layers(half), by_behind(half), by_cover(half, singles(half))):
                self.assertIs(type(told), int)

    def test_what_is_handed_in_stays(self):
        right = (("d", "c"), ("a", "b"))
        for thing in ([("d", "c"), ["a", "b"]], (("d", "c"), {"a": ["b"]}), right, {"d": [], "c": {}}):
            half = copy.deepcopy(HALF)
            kept = copy.deepcopy(thing)
            first = type(helping.refusal(by_cover, half, thing))
            by_layers(half)
            by_behind(half)
            self.assertEqual((half, thing), (HALF, kept))
            self.assertIs(type(helping.refusal(by_cover, half, thing)), first)


if __name__ == "__main__":
    unittest.main()
