import copy
import itertools
import unittest

import helping
from halforder.bunches import cover, is_bunch, is_cover, widest

# a ahead of b ahead of c, d ahead of c.
HALF = (("d", "c", "a", "b"), (("b", "c"), ("a", "b"), ("a", "b"), ("d", "c")))
SMALL = helping.small_halves() + helping.four_name_halves()
ALL = SMALL + helping.five_name_halves() + helping.large_halves()


def bunches(half):
    """All bunches, found by trying each part of the names."""
    pairs = helping.ahead_in_all(half)
    return [part for part in helping.subsets(half[0]) if not pairs & set(itertools.permutations(part, 2))]


def rows_of_names(names):
    """All tuples of some of these names, each at most once, in each order."""
    return [row for part in helping.subsets(names) for row in itertools.permutations(part)]


class TestIsBunch(unittest.TestCase):
    def test_an_ordinary_half(self):
        right = [(), ("d",), ("c",), ("a",), ("b",), ("d", "a"), ("d", "b")]
        told = [row for row in rows_of_names(HALF[0]) if is_bunch(HALF, row)]
        self.assertEqual(sorted(told), sorted(right))
        self.assertIs(is_bunch(HALF, ("d", "a")), True)
        self.assertIs(is_bunch(HALF, ("a", "d")), False)

    def test_names_told_by_more_than_one_saying(self):
        self.assertIs(is_bunch(HALF, ("c", "a")), False)
        self.assertIs(is_bunch(helping.ROW, ("a", "j")), False)

    def test_all_small_halves(self):
        for half in SMALL:
            right = set(bunches(half))
            for row in rows_of_names(half[0]):
                self.assertIs(is_bunch(half, row), row in right, (half, row))

    def test_edges(self):
        for half in ALL[:5] + helping.large_halves():
            self.assertIs(is_bunch(half, ()), True)
        self.assertIs(is_bunch(helping.ONE, ("a",)), True)
        self.assertIs(is_bunch(helping.NONE, ("a",)), False)
        self.assertIs(is_bunch(helping.FREE, helping.TEN), True)
        self.assertIs(is_bunch(helping.FREE, helping.TEN[::-1]), False)

    def test_names_twice_and_strange_ones(self):
        for thing in (("d", "d"), ("d", "a", "a"), ("d", "d", "a"), ("d", "z"), ("z",), ("d", "a", "z"), ("z", "d")):
            self.assertIs(is_bunch(HALF, thing), False, thing)

    def test_other_kinds(self):
        for thing in (["d", "a"], {"d": True, "a": True}, "da", "d", [], "", {}, None, False, 0):
            self.assertIs(is_bunch(HALF, thing), False, thing)
        for half in (HALF, helping.FREE, helping.NONE):
            for thing in helping.STRANGE:
                self.assertIs(is_bunch(half, thing), False, thing)
            self.assertIs(is_bunch(half, helping.strange_deep(90)), False)


class TestIsCover(unittest.TestCase):
    def test_an_ordinary_half(self):
        for thing in (
            (("d", "c"), ("a", "b")), (("a", "b"), ("d", "c")), (("a", "c"), ("d",), ("b",)), (("d",), ("a", "b", "c")),
            (("d",), ("c",), ("a",), ("b",)), (("b",), ("a",), ("d",), ("c",)),
        ):
            self.assertIs(is_cover(HALF, thing), True, thing)

    def test_chains_turned_about_or_broken(self):
        for thing in (
            (("c", "d"), ("a", "b")), (("d", "c"), ("b", "a")), (("d", "a"), ("b", "c")), (("c", "b", "a"), ("d",)),
            (("a", "c", "b"), ("d",)), (("d", "c", "a", "b"),),
        ):
            self.assertIs(is_cover(HALF, thing), False, thing)

    def test_names_left_out_twice_or_strange(self):
        for thing in (
            (), (("d", "c"), ("a",)), (("a", "b", "c"),), (("d", "c"), ("a", "b", "c")),
            (("d", "c"), ("a", "b"), ("a",)), (("d", "c"), ("a", "b"), ("d", "c")),
            (("d", "c"), ("a", "b"), ("z",)), (("d", "c"), ("a", "b", "z")),
            (("d", "c"), ("a", "a", "b")), (("d", "c"), ("a", "z")),
        ):
            self.assertIs(is_cover(HALF, thing), False, thing)

    def test_an_empty_chain(self):
        for thing in ((("d", "c"), ("a", "b"), ()), ((), ("d", "c"), ("a", "b"))):
            self.assertIs(is_cover(HALF, thing), False, thing)
        self.assertIs(is_cover(helping.NONE, ((),)), False)

    def test_other_kinds(self):
        for thing in (
            [("d", "c"), ("a", "b")], (["d", "c"], ("a", "b")), (("d", "c"), ["a", "b"]), ("dc", ("a", "b")),
            ("d", "c", "a", "b"), (("d", "c"), {"a": True, "b": True}), {("d", "c"): True, ("a", "b"): True},
            (("d", "c"), ("a", ["b"])), (("d", "c"), ("a", "b"), None), (("d", "c"), ("a", "b"), True), "dcab",
            (("d", "c"), ("a", ("b",))), ((("d", "c"), ("a", "b")),),
        ):
            self.assertIs(is_cover(HALF, thing), False, thing)
        for half in (HALF, helping.FREE, helping.NONE):
            for thing in helping.STRANGE:
                self.assertIs(is_cover(half, thing), False, thing)
            self.assertIs(is_cover(half, helping.strange_deep(90)), False)

    def test_edges(self):
        self.assertIs(is_cover(helping.NONE, ()), True)
        self.assertIs(is_cover(helping.ONE, ()), False)
        self.assertIs(is_cover(helping.ONE, (("a",),)), True)
        self.assertIs(is_cover(helping.ROW, (helping.TEN,)), True)
        self.assertIs(is_cover(helping.ROW, (helping.TEN[::2], helping.TEN[1::2])), True)
        self.assertIs(is_cover(helping.FREE, (helping.TEN,)), False)
        self.assertIs(is_cover(helping.FREE, tuple((name,) for name in helping.TEN[::-1])), True)

    def test_all_small_halves(self):
        for half in helping.small_halves():
            pairs = helping.ahead_in_all(half)
            rows = rows_of_names(half[0])
            for size in range(len(half[0]) + 1):
                for thing in itertools.product(rows, repeat=size):
                    right = all(row and set(zip(row, row[1:])) <= pairs for row in thing)
                    right = right and sorted(itertools.chain(*thing)) == sorted(half[0])
                    self.assertIs(is_cover(half, thing), right, (half, thing))


class TestWidestAndCover(unittest.TestCase):
    def check_kinds(self, half):
        self.assertIs(type(widest(half)), tuple)
        told = cover(half)
        self.assertIs(type(told), tuple)
        self.assertTrue(all(type(chain) is tuple for chain in told))

    def test_ordinary_halves(self):
        self.assertIn(widest(HALF), (("d", "a"), ("d", "b")))
        self.assertEqual(len(cover(HALF)), 2)
        self.assertEqual(len(widest(helping.ZIGZAG)), 5)
        self.assertEqual(len(widest(helping.GRID)), 2)

    def test_edges(self):
        self.assertEqual((widest(helping.NONE), cover(helping.NONE)), ((), ()))
        self.assertEqual((widest(helping.ONE), cover(helping.ONE)), (("a",), (("a",),)))
        self.assertEqual(widest(helping.FREE), helping.TEN)
        self.assertEqual(sorted(cover(helping.FREE)), [(name,) for name in helping.TEN])
        for half in (helping.ROW, helping.FULL):
            self.assertEqual(len(widest(half)), 1)
            self.assertEqual(cover(half), (helping.TEN,))

    def test_a_follower_must_be_given_up_for_the_fewest_chains(self):
        for names in itertools.permutations("abcd"):
            half = (names, (("a", "c"), ("a", "d"), ("b", "c")))
            self.assertEqual(sorted(cover(half)), [("a", "d"), ("b", "c")])

    def test_chains_that_leave_names_out_between(self):
        # The middle name of two rows that cross: a cover of two needs a pair that is not bare.
        half = (tuple("abcde"), (("a", "c"), ("b", "c"), ("c", "d"), ("c", "e")))
        self.assertEqual(len(cover(half)), 2)
        self.assertIs(is_cover(half, cover(half)), True)

    def test_against_all_bunches(self):
        for half in SMALL + helping.five_name_halves():
            told = widest(half)
            right = bunches(half)
            self.assertIn(told, right, half)
            self.assertEqual(len(told), max(len(bunch) for bunch in right), half)

    def test_bunch_and_cover_are_as_many(self):
        # No cover has fewer chains than a bunch has names, so where these are as many both are the best ones.
        for half in ALL:
            self.assertIs(is_bunch(half, widest(half)), True, half)
            self.assertIs(is_cover(half, cover(half)), True, half)
            self.assertEqual(len(cover(half)), len(widest(half)), half)
            self.check_kinds(half)


class TestNothingIsChanged(unittest.TestCase):
    def test_what_is_handed_in_stays(self):
        things = [["d", "a"], (["d"], ("c",)), {"d": ["a"]}, (("d", "c"), ["a", {"b": []}]), ("d", "a")]
        for thing in things:
            half = copy.deepcopy(HALF)
            kept = copy.deepcopy(thing)
            first = (is_bunch(half, thing), is_cover(half, thing), widest(half), cover(half))
            self.assertEqual(thing, kept)
            self.assertEqual(half, HALF)
            self.assertEqual((is_bunch(half, thing), is_cover(half, thing), widest(half), cover(half)), first)


if __name__ == "__main__":
    unittest.main()
