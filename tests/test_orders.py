import copy
import itertools
import math
import unittest

import helping
from halforder.counting import count
from halforder.errors import NoOrder, NoPlace, TooMany
from halforder.orders import all_orders, is_order, next_order, number_of, order_of

# a ahead of b ahead of c, d untold with all.
HALF = (("d", "c", "a", "b"), (("b", "c"), ("a", "b"), ("a", "b")))
HALF_ORDERS = [("d", "a", "b", "c"), ("a", "d", "b", "c"), ("a", "b", "d", "c"), ("a", "b", "c", "d")]
SMALL = helping.small_halves() + helping.four_name_halves()
LISTED = SMALL + helping.five_name_halves()
SIX_FREE = (tuple("fedcba"), ())
# As many orders, but of ten names, and of as many sayings as there may be: a, b, c and d stand ahead of the others.
TEN_LISTED = (helping.TEN, helping.SIXTY[:30] * 2)


def numbers_to_try(half):
    many = count(half)
    numbers = {0, 1, 2, many // 3, many // 2, many // 2 + 1, many - 2, many - 1}
    return sorted(number for number in numbers if 0 <= number < many)


class TestIsOrder(unittest.TestCase):
    def test_an_ordinary_half(self):
        told = [row for row in itertools.permutations(HALF[0]) if is_order(HALF, row)]
        self.assertEqual(told, HALF_ORDERS)
        self.assertIs(is_order(HALF, ("a", "b", "d", "c")), True)
        self.assertIs(is_order(HALF, ("b", "a", "d", "c")), False)

    def test_all_small_halves(self):
        for half in SMALL:
            right = helping.orders(half)
            for size in range(len(half[0]) + 1):
                for row in itertools.product(half[0], repeat=size):
                    self.assertIs(is_order(half, row), row in right, (half, row))

    def test_edges(self):
        self.assertIs(is_order(helping.NONE, ()), True)
        self.assertIs(is_order(helping.NONE, []), False)
        self.assertIs(is_order(helping.NONE, ("a",)), False)
        self.assertIs(is_order(helping.ONE, ("a",)), True)
        self.assertIs(is_order(helping.ONE, ()), False)
        for row in (helping.TEN, helping.TEN[::-1]):
            self.assertIs(is_order(helping.FREE, row), True)
        for half in (helping.ROW, helping.FULL):
            self.assertIs(is_order(half, helping.TEN), True)
            for at in range(9):
                row = list(helping.TEN)
                row[at], row[at + 1] = row[at + 1], row[at]
                self.assertIs(is_order(half, tuple(row)), False)

    def test_other_things(self):
        for thing in helping.wrong_orders(HALF_ORDERS[0]):
            self.assertIs(is_order(HALF, thing), False, thing)
        for thing in helping.wrong_orders(helping.TEN):
            self.assertIs(is_order(helping.FREE, thing), False, thing)
        for half in (HALF, helping.FREE, helping.NONE):
            for thing in helping.STRANGE:
                self.assertIs(is_order(half, thing), False, thing)


class TestAllOrders(unittest.TestCase):
    def test_an_ordinary_half(self):
        self.assertEqual(all_orders(HALF), HALF_ORDERS)

    def test_edges(self):
        self.assertEqual(all_orders(helping.NONE), [()])
        self.assertEqual(all_orders(helping.ONE), [("a",)])
        self.assertEqual(all_orders(helping.ROW), [helping.TEN])
        self.assertEqual(all_orders(helping.FULL), [helping.TEN])
        self.assertEqual(all_orders(helping.put_beside(helping.ONE, (("b",), ()))), [("a", "b"), ("b", "a")])

    def test_against_listing(self):
        for half in LISTED + [half for half in helping.large_halves() if len(half[0]) < 8 and count(half) <= 720]:
            self.assertEqual(all_orders(half), helping.orders(half), half)

    def test_ten_names(self):
        told = all_orders(helping.GRID)
        self.assertEqual(len(told), 42)
        self.assertEqual(len(set(told)), 42)
        self.assertTrue(all(is_order(helping.GRID, order) for order in told))
        self.assertEqual(told, sorted(told))

    def test_720_orders(self):
        self.assertEqual(all_orders(SIX_FREE), list(itertools.permutations("fedcba")))
        self.assertEqual(len(TEN_LISTED[1]), 60)
        self.assertEqual(
            all_orders(TEN_LISTED), [tuple("abcd") + rest for rest in itertools.permutations("efghij")],
        )

    def test_719_orders_and_721(self):
        self.assertEqual(len(all_orders(helping.LISTED_719)), 719)
        self.assertEqual(count(helping.UNLISTED_721), 721)

    def test_more_than_720(self):
        for half in (helping.UNLISTED_721, (tuple("gfedcba"), ()), helping.FREE, helping.ZIGZAG):
            refused = helping.refusal(all_orders, half)
            self.assertIsInstance(refused, TooMany)
            self.assertEqual(refused.word, "orders")

    def test_kinds(self):
        told = all_orders(HALF)
        self.assertIs(type(told), list)
        self.assertTrue(all(type(order) is tuple for order in told))

    def test_a_told_list_may_be_changed(self):
        told = all_orders(HALF)
        told.reverse()
        told.append("more")
        self.assertEqual(all_orders(HALF), HALF_ORDERS)


class TestNumbers(unittest.TestCase):
    def check_no_place(self, half, number):
        refused = helping.refusal(order_of, half, number)
        self.assertIsInstance(refused, NoPlace)
        self.assertEqual(refused.number, number)

    def test_against_listing(self):
        for half in LISTED:
            rows = helping.orders(half)
            for number, row in enumerate(rows):
                self.assertEqual(order_of(half, number), row, half)
                self.assertEqual(number_of(half, row), number, half)
                self.assertEqual(next_order(half, row), (rows + [None])[number + 1], half)
            self.check_no_place(half, -1)
            self.check_no_place(half, len(rows))

    def test_each_is_the_others_way_back(self):
        for half in helping.large_halves() + [helping.UNLISTED_721, SIX_FREE, TEN_LISTED]:
            last = None
            for number in numbers_to_try(half):
                order = order_of(half, number)
                self.assertIs(is_order(half, order), True, half)
                self.assertEqual(number_of(half, order), number, half)
                places = [half[0].index(name) for name in order]
                self.assertTrue(last is None or last < places, half)
                last = places

    def test_next_orders(self):
        for half in helping.large_halves() + [helping.UNLISTED_721]:
            for number in numbers_to_try(half):
                behind = next_order(half, order_of(half, number))
                if number + 1 == count(half):
                    self.assertIsNone(behind)
                else:
                    self.assertEqual(behind, order_of(half, number + 1), half)

    def test_no_two_told_of_ten_names(self):
        last = math.factorial(10) - 1
        self.assertEqual(order_of(helping.FREE, 0), helping.TEN)
        self.assertEqual(order_of(helping.FREE, 1), tuple("abcdefghji"))
        self.assertEqual(order_of(helping.FREE, last), helping.TEN[::-1])
        self.assertEqual(number_of(helping.FREE, helping.TEN), 0)
        self.assertEqual(number_of(helping.FREE, helping.TEN[::-1]), last)
        self.assertEqual(order_of(helping.FREE, math.factorial(9)), tuple("bacdefghij"))
        self.assertEqual(next_order(helping.FREE, tuple("ajihgfedcb")), tuple("bacdefghij"))
        self.assertIsNone(next_order(helping.FREE, helping.TEN[::-1]))

    def test_edges(self):
        for half, order in ((helping.NONE, ()), (helping.ONE, ("a",)), (helping.ROW, helping.TEN)):
            self.assertEqual(order_of(half, 0), order)
            self.assertEqual(number_of(half, order), 0)
            self.assertIsNone(next_order(half, order))
            self.check_no_place(half, 1)

    def test_no_place(self):
        for half in (helping.NONE, HALF, helping.FREE, helping.ZIGZAG):
            many = count(half)
            for number in (-1, -2, -many, many, many + 1, 10 ** 39, 10 ** 40 - 1, -10 ** 39, 1 - 10 ** 40):
                self.check_no_place(half, number)

    def test_no_order(self):
        wrong = helping.wrong_orders(HALF_ORDERS[0]) + [("d", "b", "a", "c"), ("d", "a", "c", "b")]
        for function in (number_of, next_order):
            for thing in wrong + list(helping.STRANGE):
                self.assertIsInstance(helping.refusal(function, HALF, thing), NoOrder, thing)
            for thing in helping.wrong_orders(helping.TEN):
                self.assertIsInstance(helping.refusal(function, helping.FREE, thing), NoOrder, thing)
            for thing in helping.STRANGE:
                self.assertIsInstance(helping.refusal(function, helping.NONE, thing), NoOrder, thing)
            self.assertIsNone(helping.refusal(function, HALF, HALF_ORDERS[0]))

    def test_kinds(self):
        self.assertIs(type(order_of(HALF, 2)), tuple)
        self.assertIs(type(order_of(helping.NONE, 0)), tuple)
        self.assertIs(type(number_of(HALF, HALF_ORDERS[2])), int)
        self.assertIs(type(next_order(HALF, HALF_ORDERS[2])), tuple)


class TestNothingIsChanged(unittest.TestCase):
    def test_what_is_handed_in_stays(self):
        for thing in (["d", "a", "b", "c"], ("d", ["a"], {"b": []}, "c"), {"d": ["a"]}, HALF_ORDERS[1]):
            half = copy.deepcopy(HALF)
            kept = copy.deepcopy(thing)
            for function in (is_order, number_of, next_order):
                first = type(helping.refusal(function, half, thing))
                self.assertEqual((half, thing), (HALF, kept))
                self.assertIs(type(helping.refusal(function, half, thing)), first)


if __name__ == "__main__":
    unittest.main()
