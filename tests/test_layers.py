import copy
import itertools
import unittest

import helping
from halforder.closures import is_ahead
from halforder.layers import layers, longest

HALF = (("d", "c", "a", "b"), (("b", "c"), ("a", "b"), ("a", "b")))
ROW = (helping.TEN, tuple(zip(helping.TEN, helping.TEN[1:])))
FREE = (helping.TEN, ())
# f has a long chain ahead of it and a short one; g only the short one.
FORK = (tuple("gfedcba"), (("a", "b"), ("b", "c"), ("c", "f"), ("d", "f"), ("d", "g")))
SAMPLES = helping.small_halves() + helping.four_name_halves()


def chain_lengths(half):
    """For each name how many names the longest chain has that ends with it, by trying all rows of names."""
    pairs = helping.ahead_in_all(half)
    lengths = {}
    for size in range(1, len(half[0]) + 1):
        for row in itertools.permutations(half[0], size):
            if all(pair in pairs for pair in zip(row, row[1:])):
                lengths[row[-1]] = size
    return lengths


class TestLayers(unittest.TestCase):
    def test_ordinary_halves(self):
        self.assertEqual(layers(HALF), (("d", "a"), ("b",), ("c",)))
        self.assertEqual(layers(FORK), (("e", "d", "a"), ("g", "b"), ("c",), ("f",)))

    def test_edges(self):
        self.assertEqual(layers(((), ())), ())
        self.assertEqual(layers((("a",), ())), (("a",),))
        self.assertEqual(layers(FREE), (helping.TEN,))
        self.assertEqual(layers(ROW), tuple((name,) for name in helping.TEN))
        self.assertEqual(layers((helping.TEN[::-1], helping.SIXTY)), tuple((name,) for name in helping.TEN))

    def test_all_small_halves(self):
        for half in SAMPLES:
            lengths = chain_lengths(half)
            sizes = range(1, max(lengths.values(), default=0) + 1)
            due = tuple(tuple(name for name in half[0] if lengths[name] == size) for size in sizes)
            self.assertEqual(layers(half), due, half)

    def test_kinds(self):
        self.assertIs(type(layers(HALF)), tuple)
        self.assertTrue(all(type(layer) is tuple for layer in layers(HALF)))


class TestLongest(unittest.TestCase):
    def check_longest(self, half):
        told = longest(half)
        self.assertIs(type(told), tuple)
        self.assertEqual(len(told), len(layers(half)), half)
        self.assertTrue(all(name in half[0] for name in told), half)
        self.assertTrue(all(is_ahead(half, one, other) for one, other in zip(told, told[1:])), half)

    def test_ordinary_halves(self):
        self.assertEqual(longest(HALF), ("a", "b", "c"))
        self.assertEqual(longest(FORK), ("a", "b", "c", "f"))

    def test_edges(self):
        self.assertEqual(longest(((), ())), ())
        self.assertEqual(longest((("a",), ())), ("a",))
        self.assertEqual(longest(ROW), helping.TEN)
        self.check_longest(FREE)
        self.check_longest((helping.TEN[::-1], helping.SIXTY))

    def test_all_small_halves(self):
        for half in SAMPLES:
            self.check_longest(half)
            self.assertEqual(len(longest(half)), max(chain_lengths(half).values(), default=0), half)


class TestNothingIsChanged(unittest.TestCase):
    def test_halves_stay_and_are_told_the_same_again(self):
        for half in (HALF, ROW, FREE, FORK, ((), ())):
            kept = copy.deepcopy(half)
            told = layers(half)
            longest(half)
            self.assertEqual(half, kept)
            self.assertEqual(layers(half), told)


if __name__ == "__main__":
    unittest.main()
