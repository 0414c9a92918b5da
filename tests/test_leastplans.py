import copy
import itertools
import unittest

import helping
from halforder.boundchecker import lets_bound
from halforder.counting import count
from halforder.errors import TooMany
from halforder.leastplans import least_plan
from halforder.orders import all_orders
from halforder.planchecker import lets_plan


def is_of_tuples(thing):
    if type(thing) is tuple:
        return all(is_of_tuples(part) for part in thing)
    return type(thing) in (int, str)


class LeastCase(unittest.TestCase):
    def check(self, half):
        """The depth told, with a plan and a bound paper that are let by with just this number."""
        told = least_plan(half)
        self.assertTrue(is_of_tuples(told))
        depth, plan, paper = told
        self.assertEqual([type(part) for part in told], [int, tuple, tuple])
        self.assertEqual(lets_plan(half, plan), depth, half)
        self.assertEqual(lets_bound(half, paper), depth, half)
        return depth


class TestLeastPlan(LeastCase):
    def test_ordinary_halves(self):
        self.assertEqual(self.check((("b", "a"), ())), 1)
        self.assertEqual(self.check((("b", "c", "a"), (("a", "b"),))), 2)
        self.assertEqual(self.check((("b", "c", "a"), ())), 3)
        self.assertEqual(self.check((("b", "d", "c", "a"), ())), 5)

    def test_more_than_the_count_tells(self):
        self.assertEqual(count(helping.CLOSED_FENCE), 8)
        self.assertEqual(self.check(helping.CLOSED_FENCE), 4)
        turned = (helping.CLOSED_FENCE[0], tuple((other, one) for one, other in helping.CLOSED_FENCE[1]))
        self.assertEqual(self.check(turned), 4)
        pair = (("x", "y"), ())
        self.assertEqual(self.check(helping.put_above(helping.CLOSED_FENCE, pair)), 5)
        self.assertEqual(self.check(helping.put_above(pair, helping.CLOSED_FENCE)), 5)
        self.assertEqual(count(helping.OPEN_FENCE), 16)
        self.assertEqual(self.check(helping.OPEN_FENCE), 4)

    def test_no_askings(self):
        for half in (helping.NONE, helping.ONE, helping.ROW, helping.FULL):
            self.assertEqual(self.check(half), 0)
            self.assertEqual(least_plan(half)[1], ("end", helping.TEN[:len(half[0])]))

    def test_against_trying_all_plans(self):
        for half in helping.small_halves() + helping.four_name_halves():
            self.assertEqual(self.check(half), helping.least_depth(frozenset(helping.orders(half))), half)

    def test_five_names_against_trying_all_plans(self):
        harder = 0
        for half in helping.five_name_halves():
            rows = frozenset(helping.orders(half))
            if len(rows) <= 60:
                depth = self.check(half)
                self.assertEqual(depth, helping.least_depth(rows), half)
                harder += 2 ** (depth - 1) >= len(rows) > 1
        self.assertGreater(harder, 0)

    def test_larger_halves_against_trying_all_plans(self):
        tried = 0
        for size, times, part in itertools.product((6, 7, 8), (1, 2, 3, 5), (2, 3, 4)):
            half = helping.patterned(tuple("gbahecfd"[:size]), times, part)
            if count(half) <= 60:
                tried += 1
                self.assertEqual(self.check(half), helping.least_depth(frozenset(all_orders(half))), half)
        self.assertGreater(tried, 3)

    def test_ten_names(self):
        self.assertEqual(self.check(helping.GRID), 7)
        self.assertEqual(self.check((helping.TEN, helping.ROW[1][1:])), 4)
        for half in helping.EIGHT_ASKINGS:
            self.assertEqual(count(half), 60)
            self.assertEqual(self.check(half), 8)
            self.assertEqual(helping.least_depth(frozenset(all_orders(half))), 8)

    def test_sixty_and_sixty_one(self):
        self.assertEqual(count(helping.SIXTY_ORDERS), 60)
        self.assertEqual(self.check(helping.SIXTY_ORDERS), 6)
        self.assertEqual(count(helping.SIXTY_ONE_ORDERS), 61)
        for half in (
            helping.SIXTY_ONE_ORDERS, helping.FREE, helping.ZIGZAG, helping.LISTED_719, helping.UNLISTED_721,
            (tuple("abcde"), ()),
        ):
            refused = helping.refusal(least_plan, half)
            self.assertIsInstance(refused, TooMany)
            self.assertEqual(refused.word, "orders")

    def test_sayings_more_than_needed(self):
        half = (helping.CLOSED_FENCE[0], helping.CLOSED_FENCE[1] * 12)
        self.assertEqual(len(half[1]), 60)
        self.assertEqual(self.check(half), 4)

    def test_papers_keep_to_their_bounds(self):
        for half in helping.EIGHT_ASKINGS + (helping.GRID,):
            paper = least_plan(half)[2]
            self.assertLessEqual(len(paper[0]), 6000)
            self.assertLessEqual(len(paper[1]), 6000)


class TestNothingIsChanged(LeastCase):
    def test_halves_stay(self):
        for half in (helping.CLOSED_FENCE, helping.GRID, helping.SIXTY_ONE_ORDERS):
            kept = copy.deepcopy(half)
            helping.refusal(least_plan, half)
            helping.refusal(least_plan, half)
            self.assertEqual(half, kept)


if __name__ == "__main__":
    unittest.main()
