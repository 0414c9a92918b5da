import copy
import itertools
import math
import unittest

import helping
from halforder.closures import is_ahead
from halforder.counting import count
from halforder.errors import NoName
from halforder.shares import height, places, share

HALF = (("d", "c", "a", "b"), (("b", "c"), ("a", "b"), ("a", "b")))
LISTED = helping.small_halves() + helping.four_name_halves() + helping.five_name_halves()
ALL = LISTED + helping.large_halves()


def said(half, pair):
    return (half[0], half[1] + (pair,))


class TestShare(unittest.TestCase):
    def test_an_ordinary_half(self):
        self.assertEqual(share(HALF, "a", "b"), 4)
        self.assertEqual(share(HALF, "c", "a"), 0)
        self.assertEqual(share(HALF, "d", "a"), 1)
        self.assertEqual(share(HALF, "a", "d"), 3)
        self.assertEqual(share(HALF, "d", "b"), 2)

    def test_edges(self):
        self.assertEqual(share(helping.FREE, "j", "a"), math.factorial(10) // 2)
        self.assertEqual(share(helping.ROW, "a", "j"), 1)
        self.assertEqual(share(helping.ROW, "j", "a"), 0)
        self.assertEqual(share(helping.FULL, "e", "f"), 1)
        self.assertEqual(share(helping.FULL, "f", "e"), 0)

    def test_against_listing(self):
        for half in LISTED:
            rows = helping.orders(half)
            for one, other in itertools.permutations(half[0], 2):
                due = sum(helping.stands_ahead(row, one, other) for row in rows)
                self.assertEqual(share(half, one, other), due, (half, one, other))

    def test_both_ways_come_to_the_count(self):
        for half in helping.large_halves():
            for one, other in itertools.combinations(half[0], 2):
                self.assertEqual(share(half, one, other) + share(half, other, one), count(half), half)

    def test_the_share_is_the_count_with_a_saying_more(self):
        for half in helping.large_halves():
            for one, other in itertools.permutations(half[0], 2):
                if is_ahead(half, other, one):
                    self.assertEqual(share(half, one, other), 0)
                else:
                    self.assertEqual(share(half, one, other), count(said(half, (one, other))))

    def test_no_rarer_among_those_ahead_of_a_third(self):
        for half in helping.five_name_halves()[::3] + [helping.ZIGZAG, helping.GRID, helping.FOREST]:
            whole = count(half)
            for one, other, third in itertools.islice(itertools.permutations(half[0], 3), 120):
                among = share(half, one, third)
                if among > 0:
                    both = share(said(half, (one, third)), one, other)
                    self.assertGreaterEqual(both * whole, share(half, one, other) * among, (half, one, other, third))


class TestPlacesAndHeight(unittest.TestCase):
    def test_an_ordinary_half(self):
        self.assertEqual(places(HALF, "a"), (3, 1, 0, 0))
        self.assertEqual(places(HALF, "b"), (0, 2, 2, 0))
        self.assertEqual(places(HALF, "c"), (0, 0, 1, 3))
        self.assertEqual(places(HALF, "d"), (1, 1, 1, 1))
        self.assertEqual([height(HALF, name) for name in "abcd"], [1, 6, 11, 6])

    def test_edges(self):
        self.assertEqual((places(helping.ONE, "a"), height(helping.ONE, "a")), ((1,), 0))
        for place, name in enumerate(helping.TEN):
            self.assertEqual(places(helping.FREE, name), (math.factorial(9),) * 10)
            self.assertEqual(height(helping.FREE, name), math.factorial(9) * 45)
            for half in (helping.ROW, helping.FULL):
                self.assertEqual(places(half, name), tuple(int(at == place) for at in range(10)))
                self.assertEqual(height(half, name), place)

    def test_against_listing(self):
        for half in LISTED:
            rows = helping.orders(half)
            for name in half[0]:
                due = tuple(sum(row[at] == name for row in rows) for at in range(len(half[0])))
                self.assertEqual(places(half, name), due, (half, name))
                self.assertEqual(height(half, name), sum(row.index(name) for row in rows), (half, name))

    def test_places_come_to_the_count(self):
        for half in ALL:
            for name in half[0]:
                self.assertEqual(sum(places(half, name)), count(half), half)
                self.assertEqual(len(places(half, name)), len(half[0]), half)

    def test_places_rise_and_fall_once(self):
        for half in ALL:
            for name in half[0]:
                told = places(half, name)
                for left, middle, right in zip(told, told[1:], told[2:]):
                    self.assertGreaterEqual(middle * middle, left * right, (half, name))
                top = told.index(max(told))
                self.assertEqual(list(told[:top + 1]), sorted(told[:top + 1]), (half, name))
                self.assertEqual(list(told[top:]), sorted(told[top:], reverse=True), (half, name))

    def test_heights_come_to_the_count_times_all_places(self):
        for half in ALL:
            total = sum(height(half, name) for name in half[0])
            self.assertEqual(total, count(half) * sum(range(len(half[0]))), half)

    def test_a_height_is_the_sum_of_shares(self):
        for half in helping.large_halves():
            for name in half[0]:
                others = [other for other in half[0] if other != name]
                self.assertEqual(height(half, name), sum(share(half, other, name) for other in others), half)

    def test_names_ahead_have_lesser_heights(self):
        for half in helping.large_halves() + helping.four_name_halves():
            for one, other in itertools.permutations(half[0], 2):
                if is_ahead(half, one, other):
                    self.assertLessEqual(height(half, one) + count(half), height(half, other), half)

    def test_kinds(self):
        told = places(HALF, "d")
        self.assertIs(type(told), tuple)
        self.assertTrue(all(type(number) is int for number in told))
        self.assertIs(type(height(HALF, "d")), int)
        self.assertIs(type(share(HALF, "d", "a")), int)
        self.assertIs(type(share(HALF, "c", "a")), int)


class TestStrangers(unittest.TestCase):
    def check(self, name, function, *things):
        refused = helping.refusal(function, *things)
        self.assertIsInstance(refused, NoName)
        self.assertEqual(refused.name, name)

    def test_share(self):
        self.check("z", share, HALF, "z", "a")
        self.check("z", share, HALF, "a", "z")
        self.check("z", share, HALF, "z", "y")
        self.check("y", share, HALF, "y", "z")
        self.check("z", share, HALF, "z", "z")
        self.check("aa", share, HALF, "aa", "a")
        self.check("a", share, helping.NONE, "a", "b")
        self.check("k", share, helping.ROW, "j", "k")

    def test_places_and_height(self):
        for function in (places, height):
            self.check("z", function, HALF, "z")
            self.check("ab", function, HALF, "ab")
            self.check("a", function, helping.NONE, "a")
            self.check("k", function, helping.FREE, "k")
            self.assertIsNone(helping.refusal(function, HALF, "a"))


class TestNothingIsChanged(unittest.TestCase):
    def test_halves_stay_and_are_told_the_same_again(self):
        for half in (HALF, helping.ROW, helping.FULL, helping.FREE, helping.ZIGZAG):
            kept = copy.deepcopy(half)
            tellings = [
                [(share(half, "a", "c"), places(half, name), height(half, name)) for name in half[0]] for _ in range(2)
            ]
            self.assertEqual(half, kept)
            self.assertEqual(tellings[0], tellings[1])


if __name__ == "__main__":
    unittest.main()
