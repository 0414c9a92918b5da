import copy
import itertools
import math
import unittest

import helping
from halforder.counting import count

FENCES = (1, 1, 1, 2, 5, 16, 61, 272, 1385, 7936, 50521)


class TestCount(unittest.TestCase):
    def test_ordinary_halves(self):
        self.assertEqual(count((("b", "a", "c"), (("a", "b"),))), 3)
        self.assertEqual(count((("b", "a", "c"), (("a", "b"), ("a", "c")))), 2)
        self.assertEqual(count((tuple("abcd"), (("a", "b"), ("c", "d")))), 6)
        self.assertEqual(count((tuple("abcd"), (("a", "b"), ("c", "b"), ("c", "d")))), 5)

    def test_rows(self):
        for size in range(11):
            names = helping.TEN[:size]
            self.assertEqual(count((names, tuple(zip(names, names[1:])))), 1)
        self.assertEqual(count(helping.FULL), 1)

    def test_no_two_told(self):
        for size in range(11):
            self.assertEqual(count((helping.TEN[:size], ())), math.factorial(size))

    def test_known_numbers_of_ten_names(self):
        self.assertEqual(count(helping.ZIGZAG), FENCES[10])
        self.assertEqual(count(helping.GRID), 42)
        self.assertEqual(count(helping.FOREST), 9600)
        self.assertEqual(count((helping.TEN, helping.ROW[1][:4] + helping.ROW[1][5:])), math.comb(10, 5))
        self.assertEqual(count((helping.TEN, (("j", "a"),))), math.factorial(10) // 2)

    def test_fences(self):
        for size in range(1, 11):
            names = helping.TEN[:size]
            fence = (names, tuple(saying for saying in helping.ZIGZAG[1] if set(saying) <= set(names)))
            self.assertEqual(count(fence), FENCES[size])

    def test_sayings_alike_and_following_from_others(self):
        self.assertEqual(count((("a", "b", "c"), (("a", "b"),) * 60)), 3)
        self.assertEqual(count((("a", "b", "c", "d"), (("a", "b"), ("b", "c"), ("a", "c"), ("a", "b")))), 4)

    def test_against_listing(self):
        for half in helping.small_halves() + helping.four_name_halves() + helping.five_name_halves():
            self.assertEqual(count(half), len(helping.orders(half)), half)
        for half in helping.large_halves():
            if len(half[0]) <= 7:
                self.assertEqual(count(half), len(helping.orders(half)), half)

    def test_kind(self):
        self.assertIs(type(count(helping.NONE)), int)
        self.assertIs(type(count(helping.ROW)), int)

    def test_somewhat_beyond_the_bounds(self):
        self.assertEqual(count((tuple(helping.LETTERS), ())), math.factorial(12))
        self.assertEqual(count((helping.TEN, helping.SIXTY_ONE)), 1)


class TestSums(unittest.TestCase):
    def test_above_and_beside(self):
        uppers = helping.small_halves() + [(tuple("abcde"), (("a", "b"), ("c", "b"), ("c", "d")))]
        lowers = [((), ()), (("x",), ()), (tuple("zxy"), (("x", "y"),)), (tuple("vwxyz"), (("v", "w"), ("x", "w")))]
        for one, other in itertools.product(uppers, lowers):
            product = count(one) * count(other)
            self.assertEqual(count(helping.put_above(one, other)), product)
            self.assertEqual(count(helping.put_above(other, one)), product)
            shuffles = math.comb(len(one[0]) + len(other[0]), len(one[0]))
            self.assertEqual(count(helping.put_beside(one, other)), product * shuffles)

    def test_turned_and_called_otherwise(self):
        for half in helping.large_halves():
            turned = (half[0], tuple((other, one) for one, other in half[1]))
            self.assertEqual(count(turned), count(half))
            called = dict(zip(half[0], ("q", "names", "ahead", "abcdefgh", "e", "d", "c", "b", "a", "x")))
            otherwise = (
                tuple(called[name] for name in half[0]), tuple((called[a], called[b]) for a, b in half[1]),
            )
            self.assertEqual(count(otherwise), count(half))

    def test_the_order_of_names_changes_nothing(self):
        for half in helping.large_halves():
            self.assertEqual(count((half[0][::-1], half[1][::-1])), count(half))


class TestNothingIsChanged(unittest.TestCase):
    def test_halves_stay_and_are_told_the_same_again(self):
        for half in helping.large_halves():
            kept = copy.deepcopy(half)
            first = count(half)
            self.assertEqual(half, kept)
            self.assertEqual(count(half), first)


if __name__ == "__main__":
    unittest.main()
