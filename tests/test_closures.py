import copy
import itertools
import unittest

import helping
from halforder.closures import ahead_of, alike, bare, behind, closed, is_ahead, is_row, untold
from halforder.errors import HalfError, NoName

# a ahead of b ahead of c, d untold with all; sayings told twice, and one told that follows from others.
HALF = (("d", "c", "a", "b"), (("b", "c"), ("a", "b"), ("a", "b"), ("a", "c")))
ROW = (helping.TEN, tuple(zip(helping.TEN, helping.TEN[1:])))
FULL = (helping.TEN, helping.SIXTY)
BACK = (helping.TEN[::-1], helping.SIXTY)
FREE = (helping.TEN, ())
SAMPLES = helping.small_halves() + helping.four_name_halves()


def rising(half, pairs):
    return tuple(sorted(pairs, key=lambda pair: (half[0].index(pair[0]), half[0].index(pair[1]))))


def stranger(function, *things):
    """The field of the refusal with NoName."""
    try:
        function(*things)
    except NoName as refusal:
        return refusal.name
    return None


class TestOfOneHalf(unittest.TestCase):
    def test_is_ahead(self):
        told = [pair for pair in itertools.product(HALF[0], repeat=2) if is_ahead(HALF, *pair)]
        self.assertEqual(sorted(told), [("a", "b"), ("a", "c"), ("b", "c")])
        self.assertIs(is_ahead(HALF, "a", "c"), True)
        self.assertIs(is_ahead(HALF, "c", "a"), False)
        self.assertIs(is_ahead(HALF, "d", "a"), False)

    def test_one_name_for_both(self):
        for half in (HALF, ROW, FREE):
            for name in half[0]:
                self.assertIs(is_ahead(half, name, name), False)

    def test_ahead_of_and_behind(self):
        self.assertEqual(ahead_of(HALF, "c"), ("a", "b"))
        self.assertEqual(ahead_of(HALF, "a"), ())
        self.assertEqual(behind(HALF, "a"), ("c", "b"))
        self.assertEqual(behind(HALF, "b"), ("c",))
        self.assertEqual(behind(HALF, "d"), ())

    def test_pairs(self):
        self.assertEqual(closed(HALF), (("a", "c"), ("a", "b"), ("b", "c")))
        self.assertEqual(bare(HALF), (("a", "b"), ("b", "c")))
        self.assertEqual(untold(HALF), (("d", "c"), ("d", "a"), ("d", "b")))
        self.assertIs(is_row(HALF), False)

    def test_a_third_name_between_in_one_of_two_ways(self):
        half = (tuple("abcd"), (("a", "d"), ("a", "b"), ("b", "d"), ("a", "c")))
        self.assertEqual(bare(half), (("a", "b"), ("a", "c"), ("b", "d")))


class TestEdges(unittest.TestCase):
    def test_no_names(self):
        half = ((), ())
        for function in (closed, bare, untold):
            self.assertEqual(function(half), ())
        self.assertIs(is_row(half), True)
        self.assertIs(alike(half, half), True)

    def test_one_name(self):
        half = (("a",), ())
        self.assertEqual((closed(half), bare(half), untold(half)), ((), (), ()))
        self.assertEqual((ahead_of(half, "a"), behind(half, "a")), ((), ()))
        self.assertIs(is_row(half), True)

    def test_rows_of_ten_names(self):
        pairs = tuple(itertools.combinations(helping.TEN, 2))
        for half in (ROW, FULL):
            self.assertEqual(closed(half), pairs)
            self.assertEqual(bare(half), ROW[1])
            self.assertEqual(untold(half), ())
            self.assertIs(is_row(half), True)
            self.assertEqual(ahead_of(half, "j"), helping.TEN[:9])
            self.assertEqual(behind(half, "a"), helping.TEN[1:])

    def test_names_in_another_order_than_the_row(self):
        self.assertEqual(ahead_of(BACK, "d"), ("c", "b", "a"))
        self.assertEqual(behind(BACK, "h"), ("j", "i"))
        self.assertEqual(closed(BACK), rising(BACK, closed(ROW)))
        self.assertEqual(bare(BACK), rising(BACK, ROW[1]))
        self.assertIs(is_row(BACK), True)

    def test_no_sayings(self):
        self.assertEqual((closed(FREE), bare(FREE)), ((), ()))
        self.assertEqual(untold(FREE), tuple(itertools.combinations(helping.TEN, 2)))
        self.assertIs(is_row(FREE), False)

    def test_one_pair_left_untold(self):
        half = (helping.TEN, tuple(pair for pair in closed(ROW) if pair != ("d", "e")))
        self.assertEqual(untold(half), (("d", "e"),))
        self.assertIs(is_row(half), False)

    def test_somewhat_beyond_the_bounds(self):
        names = tuple("lkjihgfedcba")
        half = (names, tuple(zip(names, names[1:])) * 6)
        self.assertEqual(closed(half), tuple(itertools.combinations(names, 2)))
        self.assertIs(is_row(half), True)


class TestAgainstOrders(unittest.TestCase):
    def test_who_is_ahead(self):
        for half in SAMPLES:
            pairs = helping.ahead_in_all(half)
            names = half[0]
            for one, other in itertools.product(names, repeat=2):
                self.assertIs(is_ahead(half, one, other), (one, other) in pairs, half)
            for name in names:
                self.assertEqual(ahead_of(half, name), tuple(one for one in names if (one, name) in pairs), half)
                self.assertEqual(behind(half, name), tuple(one for one in names if (name, one) in pairs), half)

    def test_pairs(self):
        for half in SAMPLES:
            pairs = helping.ahead_in_all(half)
            self.assertEqual(closed(half), rising(half, pairs), half)
            thin = {(a, b) for a, b in pairs if not any((a, c) in pairs and (c, b) in pairs for c in half[0])}
            self.assertEqual(bare(half), rising(half, thin), half)
            free = tuple((a, b) for a, b in itertools.combinations(half[0], 2) if not {(a, b), (b, a)} & pairs)
            self.assertEqual(untold(half), free, half)
            self.assertIs(is_row(half), len(helping.orders(half)) == 1, half)

    def test_bare_pairs_as_sayings_make_an_alike_half(self):
        for half in SAMPLES + [HALF, ROW, FULL, BACK, FREE]:
            self.assertIs(alike(half, (half[0], bare(half))), True, half)

    def test_kinds(self):
        for told in (closed(HALF), bare(HALF), untold(HALF), ahead_of(HALF, "c"), behind(HALF, "a")):
            self.assertIs(type(told), tuple)
        for told in (closed(HALF), bare(HALF), untold(HALF)):
            self.assertTrue(all(type(pair) is tuple and len(pair) == 2 for pair in told))


class TestAlike(unittest.TestCase):
    def test_alike_halves(self):
        self.assertIs(alike(ROW, FULL), True)
        self.assertIs(alike(ROW, BACK), True)
        self.assertIs(alike((("a", "b"), ()), (("b", "a"), ())), True)
        self.assertIs(alike((("a", "b"), (("a", "b"),) * 2), (("b", "a"), (("a", "b"),))), True)

    def test_unlike_halves(self):
        self.assertIs(alike((("a", "b"), (("a", "b"),)), (("a", "b"), (("b", "a"),))), False)
        self.assertIs(alike((("a", "b"), (("a", "b"),)), (("a", "b"), ())), False)
        self.assertIs(alike((("a", "b"), ()), (("a", "b"), (("a", "b"),))), False)
        self.assertIs(alike((("a", "b"), ()), (("a", "c"), ())), False)
        self.assertIs(alike((("a", "b"), ()), (("a",), ())), False)
        self.assertIs(alike((("a",), ()), (("a", "b"), ())), False)
        self.assertIs(alike(((), ()), (("a",), ())), False)
        self.assertIs(alike((("a", "b", "c"), (("a", "b"),)), (("a", "b"), (("a", "b"),))), False)

    def test_all_small_halves(self):
        halves = helping.small_halves()
        seen = {}
        for half in halves:
            seen[half] = (frozenset(half[0]), frozenset(helping.ahead_in_all(half)))
        for one, other in itertools.product(halves, repeat=2):
            self.assertIs(alike(one, other), seen[one] == seen[other], (one, other))


class TestStrangers(unittest.TestCase):
    def test_is_ahead(self):
        self.assertEqual(stranger(is_ahead, HALF, "z", "a"), "z")
        self.assertEqual(stranger(is_ahead, HALF, "a", "z"), "z")
        self.assertEqual(stranger(is_ahead, HALF, "z", "y"), "z")
        self.assertEqual(stranger(is_ahead, HALF, "y", "z"), "y")
        self.assertEqual(stranger(is_ahead, HALF, "z", "z"), "z")
        self.assertEqual(stranger(is_ahead, ((), ()), "a", "b"), "a")
        self.assertIsNone(stranger(is_ahead, HALF, "a", "a"))

    def test_ahead_of_and_behind(self):
        for function in (ahead_of, behind):
            self.assertEqual(stranger(function, HALF, "z"), "z")
            self.assertEqual(stranger(function, HALF, "aa"), "aa")
            self.assertEqual(stranger(function, ((), ()), "a"), "a")
            self.assertIsNone(stranger(function, HALF, "d"))
            with self.assertRaises(HalfError):
                function(HALF, "z")


class TestNothingIsChanged(unittest.TestCase):
    def test_halves_stay_and_are_told_the_same_again(self):
        for half in (HALF, ROW, FULL, BACK, FREE, ((), ())):
            kept = copy.deepcopy(half)
            tellings = [
                (closed(half), bare(half), untold(half), is_row(half), alike(half, half))
                + tuple((ahead_of(half, name), behind(half, name)) for name in half[0])
                for time in range(2)
            ]
            self.assertEqual(half, kept)
            self.assertEqual(tellings[0], tellings[1])


if __name__ == "__main__":
    unittest.main()
