import copy
import itertools
import math
import unittest

import helping
from halforder.counting import count
from halforder.errors import Clash, NoJoin, NoName
from halforder.halves import is_half
from halforder.joins import above, beside, called, only, said, turned, without
from halforder.shares import share

# a ahead of b ahead of c, d untold with all.
HALF = (("d", "c", "a", "b"), (("b", "c"), ("a", "b"), ("a", "b")))
OTHER = (("z", "x", "y"), (("x", "y"), ("x", "y")))
SMALL = helping.small_halves() + helping.four_name_halves()[::3]
# Sixty sayings of two names, so that there is no room for one more.
CROWDED = (helping.TEN, (("a", "b"),) * 60)
UPPER = (tuple("abcde"), tuple(itertools.combinations("abcde", 2)) * 6)
LOWER = (tuple("vwxyz"), tuple(itertools.combinations("vwxyz", 2)) * 6)


class HalvesCase(unittest.TestCase):
    def check_half(self, told, names, pairs):
        """That a half is told of these names in this order, by which just these ones are ahead of these."""
        self.assertIs(is_half(told), True)
        for part in (told, told[0], told[1]) + told[1]:
            self.assertIs(type(part), tuple)
        self.assertEqual(told[0], tuple(names))
        self.assertEqual(helping.closed_by_sayings(told), set(pairs))
        self.assertLessEqual(len(told[1]), 60)

    def check_refusal(self, kind, field, value, function, *things):
        refused = helping.refusal(function, *things)
        self.assertIsInstance(refused, kind, things)
        self.assertEqual(getattr(refused, field), value, things)


class TestAboveAndBeside(HalvesCase):
    def check_both(self, one, other):
        pairs = helping.closed_by_sayings(one) | helping.closed_by_sayings(other)
        names = one[0] + other[0]
        self.check_half(beside(one, other), names, pairs)
        self.check_half(above(one, other), names, pairs | set(itertools.product(one[0], other[0])))

    def test_ordinary_halves(self):
        self.check_both(HALF, OTHER)
        self.check_both(OTHER, HALF)
        told = above((("a", "b"), ()), (("d", "c"), (("c", "d"),)))
        self.check_half(told, "abdc", {("a", "c"), ("a", "d"), ("b", "c"), ("b", "d"), ("c", "d")})

    def test_small_halves(self):
        for one in SMALL:
            for other in (helping.NONE, (("x",), ()), OTHER, (("x", "y", "w", "z"), (("z", "x"), ("w", "x")))):
                self.check_both(one, other)
                self.check_both(other, one)

    def test_no_names(self):
        self.check_half(above(helping.NONE, helping.NONE), (), set())
        self.check_half(beside(helping.NONE, helping.NONE), (), set())
        for half in (helping.FREE, helping.FULL, helping.ZIGZAG, CROWDED):
            self.check_both(half, helping.NONE)
            self.check_both(helping.NONE, half)

    def test_ten_names_and_sixty_sayings(self):
        self.check_both(UPPER, LOWER)
        self.check_both((tuple("abcde"), ()), (tuple("vwxyz"), ()))
        self.check_both((helping.TEN[:9], helping.SIXTY[:8] * 7), (("z",), ()))

    def test_a_name_in_both(self):
        for function in (above, beside):
            for one, other in (
                (HALF, HALF), (helping.ONE, helping.ONE), (HALF, (("x", "b"), ())), ((("x", "b"), ()), HALF),
                (helping.FREE, helping.FREE), (helping.FREE, (tuple("xyzj"), ())), (helping.ONE, helping.ROW),
            ):
                self.check_refusal(NoJoin, "word", "names", function, one, other)

    def test_more_than_ten(self):
        for function in (above, beside):
            for one, other in (
                (helping.FREE, (("z",), ())), ((("z",), ()), helping.ROW), (helping.FULL, OTHER),
                ((tuple("abcdef"), ()), (tuple("vwxyz"), ())),
            ):
                self.check_refusal(NoJoin, "word", "many", function, one, other)

    def test_counts(self):
        for one in helping.five_name_halves()[::20] + [UPPER]:
            for other in (helping.NONE, (("x",), ()), OTHER, LOWER, (tuple("vwxyz"), (("v", "w"), ("x", "w")))):
                product = count(one) * count(other)
                self.assertEqual(count(above(one, other)), product)
                shuffles = math.comb(len(one[0]) + len(other[0]), len(other[0]))
                self.assertEqual(count(beside(one, other)), product * shuffles)


class TestTurned(HalvesCase):
    def test_small_and_large_halves(self):
        for half in SMALL + helping.large_halves() + [HALF, CROWDED, helping.NONE, helping.ONE]:
            pairs = helping.closed_by_sayings(half)
            self.check_half(turned(half), half[0], {(b, a) for a, b in pairs})
            self.assertEqual(count(turned(half)), count(half))
            self.check_half(turned(turned(half)), half[0], pairs)


class TestWithoutAndOnly(HalvesCase):
    def left(self, half, names):
        return {pair for pair in helping.closed_by_sayings(half) if set(pair) <= set(names)}

    def test_an_ordinary_half(self):
        self.check_half(without(HALF, "b"), "dca", {("a", "c")})
        self.check_half(without(HALF, "c"), "dab", {("a", "b")})
        self.check_half(only(HALF, ("b", "c")), "cb", {("b", "c")})
        self.check_half(only(HALF, ("c", "a", "c", "d")), "dca", {("a", "c")})

    def test_small_and_large_halves(self):
        for half in SMALL + helping.large_halves() + [CROWDED]:
            for name in half[0]:
                rest = [other for other in half[0] if other != name]
                self.check_half(without(half, name), rest, self.left(half, rest))
            for names in (half[0], half[0][::-1], half[0][::2], half[0][1::2] * 2, ()):
                rest = [name for name in half[0] if name in names]
                self.check_half(only(half, names), rest, self.left(half, rest))

    def test_edges(self):
        self.check_half(only(HALF, ()), (), set())
        self.check_half(only(helping.NONE, ()), (), set())
        self.check_half(without(helping.ONE, "a"), (), set())
        self.check_half(without(helping.FULL, "e"), "jihgfdcba", self.left(helping.FULL, "jihgfdcba"))

    def test_strangers(self):
        self.check_refusal(NoName, "name", "z", without, HALF, "z")
        self.check_refusal(NoName, "name", "a", without, helping.NONE, "a")
        self.check_refusal(NoName, "name", "z", only, HALF, ("z",))
        self.check_refusal(NoName, "name", "z", only, HALF, ("a", "b", "z", "y"))
        self.check_refusal(NoName, "name", "y", only, HALF, ("y", "z", "a"))
        self.check_refusal(NoName, "name", "x", only, helping.NONE, ("x", "a"))


class TestCalled(HalvesCase):
    def test_an_ordinary_half(self):
        self.check_half(called(HALF, ("w", "x", "y", "z")), "wxyz", {("y", "z"), ("z", "x"), ("y", "x")})

    def test_names_exchanged(self):
        self.check_half(called(HALF, ("a", "b", "c", "d")), "abcd", {("c", "d"), ("d", "b"), ("c", "b")})

    def test_large_halves(self):
        new = ("names", "ahead", "abcdefgh", "q", "a", "b", "c", "d", "e", "f")
        for half in helping.large_halves() + [CROWDED, helping.NONE, helping.ONE]:
            names = new[:len(half[0])]
            table = dict(zip(half[0], names))
            pairs = {(table[a], table[b]) for a, b in helping.closed_by_sayings(half)}
            self.check_half(called(half, names), names, pairs)
            self.assertEqual(count(called(half, names)), count(half))

    def test_any_other_thing(self):
        for thing in (
            (), ("w",), ("w", "x", "y"), ("w", "x", "y", "z", "v"), ("w", "x", "y", "w"), ("w", "w", "w", "w"),
            ["w", "x", "y", "z"], "wxyz", {"w": 1, "x": 2, "y": 3, "z": 4}, ("w", "x", "y", "Z"), ("w", "x", "y", ""),
            ("w", "x", "y", "abcdefghi"), ("w", "x", "y", None), ("w", "x", "y", True), ("w", "x", "y", 1),
            ("w", "x", "y", ["z"]), ("w", "x", "y", ("z",)), ("w", "x", "y", {}), ("w", "x", "y", "z "),
            (("w", "x", "y", "z"),), helping.strange_deep(90),
        ) + helping.STRANGE:
            self.check_refusal(NoJoin, "word", "names", called, HALF, thing)
        for thing in helping.STRANGE:
            self.check_refusal(NoJoin, "word", "names", called, helping.NONE, thing)
        self.check_refusal(NoJoin, "word", "names", called, helping.FREE, helping.ELEVEN)
        self.check_refusal(NoJoin, "word", "names", called, helping.FREE, helping.TEN[:9] + ("a",))


class TestSaid(HalvesCase):
    def test_an_ordinary_half(self):
        pairs = helping.closed_by_sayings(HALF)
        self.check_half(said(HALF, "d", "b"), HALF[0], pairs | {("d", "b"), ("d", "c")})
        self.check_half(said(HALF, "c", "d"), HALF[0], pairs | {("c", "d"), ("b", "d"), ("a", "d")})
        self.check_half(said(HALF, "a", "c"), HALF[0], pairs)

    def test_small_and_large_halves(self):
        for half in SMALL + helping.large_halves() + [CROWDED]:
            pairs = helping.closed_by_sayings(half)
            for one, other in itertools.permutations(half[0], 2):
                if (other, one) in pairs:
                    self.check_clash(half, one, other)
                else:
                    more = helping.closed_by_sayings((half[0], half[1] + ((one, other),)))
                    self.check_half(said(half, one, other), half[0], more)

    def check_clash(self, half, one, other):
        refused = helping.refusal(said, half, one, other)
        self.assertIsInstance(refused, Clash)
        self.assertIs(type(refused.way), tuple)
        self.assertEqual((refused.way[0], refused.way[-1]), (other, one))
        self.assertTrue(all(step in half[1] for step in zip(refused.way, refused.way[1:])), half)

    def test_clashes(self):
        self.check_refusal(Clash, "way", ("a", "b"), said, HALF, "b", "a")
        self.check_refusal(Clash, "way", ("a", "b", "c"), said, HALF, "c", "a")
        self.check_refusal(Clash, "way", helping.TEN, said, helping.ROW, "j", "a")
        self.check_clash(helping.FULL, "j", "a")
        self.check_refusal(Clash, "way", ("a", "b"), said, CROWDED, "b", "a")

    def test_strangers(self):
        self.check_refusal(NoName, "name", "z", said, HALF, "z", "a")
        self.check_refusal(NoName, "name", "z", said, HALF, "a", "z")
        self.check_refusal(NoName, "name", "z", said, HALF, "z", "y")
        self.check_refusal(NoName, "name", "y", said, HALF, "y", "z")
        self.check_refusal(NoName, "name", "z", said, HALF, "z", "z")
        self.check_refusal(NoName, "name", "a", said, helping.NONE, "a", "b")

    def test_counts(self):
        for half in helping.large_halves()[::3] + [HALF, helping.ZIGZAG, helping.FREE]:
            pairs = helping.closed_by_sayings(half)
            for one, other in itertools.permutations(half[0], 2):
                if (other, one) not in pairs:
                    self.assertEqual(count(said(half, one, other)), share(half, one, other))
                if not {(one, other), (other, one)} & pairs:
                    both = count(said(half, one, other)) + count(said(half, other, one))
                    self.assertEqual(both, count(half))


class TestNothingIsChanged(unittest.TestCase):
    def test_what_is_handed_in_stays(self):
        for thing in (["w", "x", "y", "z"], ("w", ["x"], {"y": []}, "z"), {"w": ["x"]}, ("w", "x", "y", "z")):
            half = copy.deepcopy(HALF)
            kept = copy.deepcopy(thing)
            first = type(helping.refusal(called, half, thing))
            self.assertEqual((half, thing), (HALF, kept))
            self.assertIs(type(helping.refusal(called, half, thing)), first)

    def test_halves_stay(self):
        half = copy.deepcopy(HALF)
        other = copy.deepcopy(OTHER)
        for _ in range(2):
            above(half, other)
            beside(half, other)
            turned(half)
            without(half, "a")
            only(half, ("a", "b"))
            said(half, "d", "a")
            helping.refusal(said, half, "c", "a")
            self.assertEqual((half, other), (HALF, OTHER))


if __name__ == "__main__":
    unittest.main()
