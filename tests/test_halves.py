import copy
import itertools
import unittest

import helping
from halforder.errors import HalfError, NoHalf
from halforder.halves import is_half, is_tale, right_half, ring

ABC = ("a", "b", "c")

RIGHT_HALVES = (
    ((), ()),
    (("a",), ()),
    (ABC, ()),
    (ABC, (("a", "b"),)),
    (ABC, (("c", "a"), ("a", "b"))),
    (ABC, (("a", "b"), ("a", "b"), ("a", "b"))),
    (ABC, (("a", "b"), ("b", "c"), ("a", "c"))),
    (("abcdefgh", "names", "ahead"), (("names", "abcdefgh"),)),
    (helping.TEN, ()),
    (helping.TEN, helping.SIXTY),
    (("a", "b"), (("a", "b"),) * 60),
)

# Of each the number of the saying that makes the first ring.
RINGED = (
    ((("a",), (("a", "a"),)), 0),
    ((ABC, (("a", "b"), ("c", "c"))), 1),
    ((ABC, (("a", "b"), ("b", "a"))), 1),
    ((ABC, (("a", "b"), ("a", "b"), ("b", "a"), ("a", "a"))), 2),
    ((ABC, (("a", "b"), ("b", "c"), ("c", "a"))), 2),
    ((ABC, (("c", "a"), ("a", "c"), ("b", "b"), ("a", "b"), ("b", "a"))), 1),
    ((ABC, (("a", "b"), ("b", "c"), ("a", "c"), ("b", "b"))), 3),
    ((helping.TEN, tuple(zip(helping.TEN, helping.TEN[1:])) + (("j", "a"),)), 9),
    ((helping.TEN, helping.SIXTY[:59] + (("j", "a"),)), 59),
)

WRONG_FRAMES = (
    None, True, False, 0, 1, -1, "", "ab", "names", {}, {"a": "b"}, [], (),
    [(), ()], ["a", "b"],
    ((),), ((), (), ()), (ABC,), (ABC, (), ()), (ABC, (("a", "b"),), None),
    ([], ()), (["a", "b"], ()), ("ab", ()), ("a", ()), (None, ()), (True, ()), (2, ()), ({}, ()), ({"a": "b"}, ()),
    (("a", "a"), ()), (("a", "b", "c", "a"), ()),
    (("",), ()), (("abcdefghi",), ()), (("A",), ()), (("a b",), ()), (("a", "b1"), ()), (("a\n",), ()),
    (("a", None), ()), (("a", True), ()), (("a", 1), ()), (("a", ("b",)), ()), (("a", ["b"]), ()), (("a", {}), ()),
    (helping.ELEVEN, ()), (tuple("abcdefghijkl"), ()),
    ((), []), (ABC, []), (ABC, [("a", "b")]), (ABC, "ab"), (ABC, ""), (ABC, None), (ABC, False), (ABC, 0),
    (ABC, {}), (ABC, {("a", "b"): True}),
    (helping.TEN, helping.SIXTY_ONE), (ABC, (("a", "b"),) * 61),
)

WRONG_SAYINGS = (
    None, True, False, 0, 1, "", "ab", [], {}, (), {"a": "b"}, {"a": True, "b": True},
    ["a", "b"], ("a",), ("a", "b", "c"), ("a", "b", None), (("a", "b"),), (("a", "b"), ("b", "c")),
    ("a", "d"), ("d", "a"), ("d", "d"), ("a", "A"), ("a", ""), ("", "a"), ("a", "ab"), ("a", "b "), ("abcdefghi", "a"),
    ("a", None), (None, "a"), ("a", True), (1, "a"), ("a", ["b"]), (["a"], "b"), ("a", ("b",)), ({}, "a"), ("a", {}),
)


def fault(thing):
    """The word and the number of the refusal, None where it is a half."""
    try:
        told = right_half(thing)
    except NoHalf as refusal:
        return (refusal.word, refusal.number)
    if told is not True:
        raise AssertionError(told)
    return None


class TestKinds(unittest.TestCase):
    def test_right_halves(self):
        for thing in RIGHT_HALVES:
            self.assertIs(is_tale(thing), True, thing)
            self.assertIs(is_half(thing), True, thing)
            self.assertIs(right_half(thing), True)
            self.assertIsNone(ring(thing))

    def test_tales_with_a_ring_are_no_halves(self):
        for thing, number in RINGED:
            self.assertIs(is_tale(thing), True, thing)
            self.assertIs(is_half(thing), False, thing)
            self.assertEqual(fault(thing), ("ring", number), thing)

    def test_wrong_frames(self):
        for thing in WRONG_FRAMES:
            self.assertIs(is_tale(thing), False, thing)
            self.assertIs(is_half(thing), False, thing)
            self.assertEqual(fault(thing), ("tale", -1), thing)

    def test_wrong_sayings(self):
        for wrong in WRONG_SAYINGS:
            for number in (0, 1, 2):
                sayings = [("a", "b"), ("b", "c"), ("a", "c")]
                sayings[number] = wrong
                thing = (ABC, tuple(sayings))
                self.assertIs(is_tale(thing), False, thing)
                self.assertIs(is_half(thing), False, thing)
                self.assertEqual(fault(thing), ("saying", number), thing)

    def test_sayings_without_names(self):
        self.assertEqual(fault(((), (("a", "b"),))), ("saying", 0))

    def test_refusals_are_of_the_base(self):
        with self.assertRaises(HalfError):
            right_half(None)


class TestWhichRefusalIsDue(unittest.TestCase):
    def test_the_tale_goes_ahead_of_all(self):
        self.assertEqual(fault((("a", "a"), (("a", "z"),))), ("tale", -1))
        self.assertEqual(fault((helping.ELEVEN, (("a", "a"),))), ("tale", -1))
        self.assertEqual(fault((ABC, (("a", "z"),) * 61)), ("tale", -1))
        self.assertEqual(fault((ABC, (("a", "a"),) * 61)), ("tale", -1))
        self.assertEqual(fault((ABC, [("a", "a")])), ("tale", -1))

    def test_the_first_wrong_saying_goes_ahead_of_later_ones(self):
        self.assertEqual(fault((ABC, (("a", "b"), None, ("a", "z")))), ("saying", 1))

    def test_a_wrong_saying_goes_ahead_of_an_earlier_ring(self):
        self.assertEqual(fault((ABC, (("a", "a"), ("a", "b"), ["b", "c"]))), ("saying", 2))
        self.assertEqual(fault((ABC, (("a", "b"), ("b", "a"), ("a", "z")))), ("saying", 2))

    def test_the_first_ring_goes_ahead_of_later_ones(self):
        self.assertEqual(fault((ABC, (("a", "b"), ("b", "c"), ("c", "b"), ("c", "a"), ("a", "a")))), ("ring", 2))

    def test_all_small_tales_against_orders(self):
        for tale in itertools.chain(helping.small_tales(), helping.four_name_tales()):
            due = None
            if not helping.orders(tale):
                starts = [(tale[0], tale[1][:size]) for size in range(len(tale[1]) + 1)]
                due = ("ring", min(size for size, start in enumerate(starts) if not helping.orders(start)) - 1)
            self.assertEqual(fault(tale), due, tale)
            self.assertIs(is_half(tale), due is None)


class TestRing(unittest.TestCase):
    def check_ring(self, tale, told):
        self.assertIs(type(told), tuple, tale)
        self.assertGreater(len(told), 0)
        for number in told:
            self.assertIs(type(number), int)
            self.assertIn(number, range(len(tale[1])))
        sayings = [tale[1][number] for number in told]
        ones = [saying[0] for saying in sayings]
        self.assertEqual(len(set(ones)), len(ones), (tale, told))
        self.assertEqual([saying[1] for saying in sayings], ones[1:] + ones[:1], (tale, told))

    def test_rings_of_one_and_of_many(self):
        for tale, number in RINGED:
            self.check_ring(tale, ring(tale))

    def test_the_only_ring(self):
        self.assertEqual(ring((ABC, (("a", "b"), ("b", "b"), ("b", "c")))), (1,))
        told = ring((ABC, (("b", "c"), ("a", "c"), ("c", "a"))))
        self.assertIn(told, ((1, 2), (2, 1)))

    def test_a_long_way_round_is_made_short(self):
        tale = (tuple("abcd"), (("a", "b"), ("b", "c"), ("c", "d"), ("a", "c"), ("b", "d"), ("d", "b"), ("d", "a")))
        self.check_ring(tale, ring(tale))

    def test_all_small_tales(self):
        for tale in itertools.chain(helping.small_tales(), helping.four_name_tales()):
            told = ring(tale)
            if helping.orders(tale):
                self.assertIsNone(told, tale)
            else:
                self.check_ring(tale, told)

    def test_sayings_turned_about(self):
        for tale in helping.small_tales():
            turned = (tale[0], tale[1][::-1])
            told = ring(turned)
            self.assertEqual(told is None, bool(helping.orders(tale)))
            if told is not None:
                self.check_ring(turned, told)

    def test_ring_somewhat_beyond_the_bounds(self):
        names = tuple("abcdefghijkl")
        line = tuple(zip(names, names[1:]))
        self.assertIsNone(ring((names, line * 6)))
        self.check_ring((names, line * 6 + (("l", "a"),)), ring((names, line * 6 + (("l", "a"),))))


class TestNothingIsChanged(unittest.TestCase):
    def test_what_is_handed_in_stays(self):
        things = list(WRONG_FRAMES) + [(ABC, (wrong,)) for wrong in WRONG_SAYINGS]
        things += [tale for tale, number in RINGED] + list(RIGHT_HALVES)
        for thing in things:
            kept = copy.deepcopy(thing)
            first = (is_tale(thing), is_half(thing), fault(thing))
            self.assertEqual(thing, kept)
            self.assertEqual((is_tale(thing), is_half(thing), fault(thing)), first)

    def test_deep_things(self):
        deep = []
        for depth in range(85):
            deep = [deep]
        for thing in (deep, (deep, ()), ((), deep), (("a", deep), ()), (ABC, deep)):
            self.assertEqual(fault(thing), ("tale", -1))
        for thing in ((ABC, (deep,)), (ABC, (("a", deep),)), (ABC, ((deep, "a"),))):
            self.assertEqual(fault(thing), ("saying", 0))


if __name__ == "__main__":
    unittest.main()
