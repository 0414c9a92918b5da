import copy
import itertools
import math
import random
import unittest

import helping
from halforder.counting import count
from halforder.errors import Clash, NoHalf, NoMore, NoName, NoSaying, TooMany
from halforder.keeping import Keeper
from halforder.questions import best, questions

NAMES = ("c", "a", "d", "b")


class KeeperCase(unittest.TestCase):
    def check_refusal(self, kind, field, due, function, *things):
        refused = helping.refusal(function, *things)
        self.assertIsInstance(refused, kind, things)
        self.assertEqual(getattr(refused, field), due, things)

    def check_way(self, keeper, way, name, other):
        """A way of sayings kept from a name to another one, by their numbers."""
        self.assertIs(type(way), tuple)
        self.assertTrue(all(type(number) is int for number in way))
        steps = [keeper.saying(number) for number in way]
        self.assertEqual((steps[0][0], steps[-1][1]), (name, other))
        self.assertTrue(all(one[1] == after[0] for one, after in zip(steps, steps[1:])))

    def check_kept(self, keeper, names, kept):
        """All that is told, held against the sayings that are kept: a dict by numbers."""
        half = (names, tuple(kept[number] for number in sorted(kept)))
        self.assertEqual(keeper.half(), half)
        self.assertEqual(keeper.numbers(), tuple(sorted(kept)))
        self.assertEqual([keeper.saying(number) for number in sorted(kept)], list(half[1]))
        for number in (-1, max(kept, default=-1) + 1, 10 ** 39):
            self.check_refusal(NoSaying, "number", number, keeper.saying, number)
        self.assertEqual(keeper.many(), count(half))
        self.assertEqual(keeper.best() is None, best(half) is None)
        if keeper.best() is not None:
            self.assertIn(keeper.best(), questions(half))
            self.assertEqual(min(keeper.best()[1]), min(best(half)[1]))
        told = helping.closed_by_sayings(half)
        for one, other in itertools.product(names, repeat=2):
            due = True if (one, other) in told else False if (other, one) in told or one == other else None
            self.assertIs(keeper.knows(one, other), due)
            if due:
                self.check_way(keeper, keeper.lead(one, other), one, other)
            else:
                self.assertIsNone(keeper.lead(one, other))


class TestMade(KeeperCase):
    def test_of_a_tuple_or_a_list(self):
        for names in ((), ("a",), NAMES, helping.TEN, ("abcdefgh", "names", "ahead")):
            for thing in (names, list(names)):
                keeper = Keeper(thing)
                self.assertEqual(keeper.half(), (names, ()))
                self.assertEqual(keeper.numbers(), ())
                self.assertEqual(keeper.many(), math.factorial(len(names)))
                self.assertIs(type(keeper.half()[0]), tuple)

    def test_any_other_thing(self):
        things = [
            None, True, 0, 1, "", "a", "abc", {}, {"a": True}, ("a", "a"), ["a", "a"], ("A",), [""], ("abcdefghi",),
            (None,), [None], (True,), [0], (["a"],), [["a"]], (("a",),), [("a",)], ({},), [{}], ("a", ["b"]), ["a", {}],
            helping.ELEVEN, list(helping.ELEVEN), ("a b",), ["a\n"], ("a", "b", "a"), helping.NONE,
            helping.strange_deep(90),
        ]
        for thing in things:
            refused = helping.refusal(Keeper, thing)
            self.assertIsInstance(refused, NoHalf, thing)
            self.assertEqual((refused.word, refused.number), ("tale", -1))

    def test_a_list_changed_later_changes_nothing(self):
        names = list(NAMES)
        keeper = Keeper(names)
        names.append("e")
        names[0] = "z"
        self.assertEqual(keeper.half(), (NAMES, ()))
        keeper.say("c", "a")
        self.check_refusal(NoName, "name", "z", keeper.say, "z", "a")
        self.assertEqual(names, ["z", "a", "d", "b", "e"])


class TestSay(KeeperCase):
    def test_numbers_rise(self):
        keeper = Keeper(NAMES)
        self.assertEqual([keeper.say("a", "b"), keeper.say("b", "c"), keeper.say("a", "c")], [0, 1, 2])
        self.assertIs(type(keeper.say("d", "c")), int)
        self.check_kept(keeper, NAMES, {0: ("a", "b"), 1: ("b", "c"), 2: ("a", "c"), 3: ("d", "c")})

    def test_sayings_alike(self):
        keeper = Keeper(NAMES)
        self.assertEqual([keeper.say("a", "b") for _ in range(3)], [0, 1, 2])
        self.check_kept(keeper, NAMES, {number: ("a", "b") for number in range(3)})
        keeper.take(0)
        self.assertIs(keeper.knows("a", "b"), True)
        self.assertIn(keeper.lead("a", "b"), ((1,), (2,)))

    def test_strangers(self):
        keeper = Keeper(NAMES)
        keeper.say("a", "b")
        for one, other, due in (
            ("z", "a", "z"), ("a", "z", "z"), ("y", "z", "y"), ("z", "y", "z"), ("z", "z", "z"),
            ("abcdefgh", "a", "abcdefgh"),
        ):
            for deed in (keeper.say, keeper.knows, keeper.lead):
                self.check_refusal(NoName, "name", due, deed, one, other)
        self.check_refusal(NoName, "name", "a", Keeper(()).say, "a", "a")
        self.check_refusal(NoName, "name", "b", Keeper(["a"]).say, "a", "b")
        self.check_kept(keeper, NAMES, {0: ("a", "b")})

    def test_clashes(self):
        keeper = Keeper(NAMES)
        keeper.say("d", "c")
        keeper.say("a", "b")
        keeper.say("b", "c")
        self.check_refusal(Clash, "way", (1,), keeper.say, "b", "a")
        self.check_refusal(Clash, "way", (1, 2), keeper.say, "c", "a")
        self.check_refusal(Clash, "way", (0,), keeper.say, "c", "d")
        for name in NAMES:
            self.check_refusal(Clash, "way", (), keeper.say, name, name)
        self.check_refusal(Clash, "way", (), Keeper(["a"]).say, "a", "a")
        keeper.take(1)
        self.assertEqual(keeper.say("b", "a"), 3)
        self.check_refusal(Clash, "way", (3,), keeper.say, "a", "b")
        self.check_kept(keeper, NAMES, {0: ("d", "c"), 2: ("b", "c"), 3: ("b", "a")})

    def test_the_way_is_by_what_is_kept(self):
        keeper = Keeper(NAMES)
        for pair in (("a", "b"), ("a", "b"), ("b", "c"), ("b", "c"), ("a", "c")):
            keeper.say(*pair)
        keeper.take(4)
        keeper.take(0)
        keeper.take(2)
        self.check_refusal(Clash, "way", (1, 3), keeper.say, "c", "a")
        self.assertEqual(keeper.lead("a", "c"), (1, 3))

    def test_a_row_of_ten(self):
        keeper = Keeper(helping.TEN)
        for pair in helping.ROW[1]:
            keeper.say(*pair)
        self.check_refusal(Clash, "way", tuple(range(9)), keeper.say, "j", "a")
        self.assertEqual(keeper.lead("a", "j"), tuple(range(9)))
        self.assertEqual((keeper.many(), keeper.best()), (1, None))

    def test_sixty(self):
        keeper = Keeper(helping.TEN)
        for number, pair in enumerate(helping.SIXTY):
            self.assertEqual(keeper.say(*pair), number)
        self.check_refusal(TooMany, "word", "sayings", keeper.say, "a", "b")
        self.check_refusal(TooMany, "word", "sayings", keeper.say, "a", "j")
        # What is told first goes.
        self.check_refusal(NoName, "name", "z", keeper.say, "a", "z")
        self.check_refusal(Clash, "way", (), keeper.say, "a", "a")
        refused = helping.refusal(keeper.say, "j", "a")
        self.assertIsInstance(refused, Clash)
        self.check_way(keeper, refused.way, "a", "j")
        self.assertEqual(keeper.half(), (helping.TEN, helping.SIXTY))
        keeper.take(7)
        self.assertEqual(keeper.say("a", "b"), 60)
        self.check_refusal(TooMany, "word", "sayings", keeper.say, "a", "b")
        keeper.undo()
        keeper.undo()
        self.check_refusal(TooMany, "word", "sayings", keeper.say, "a", "b")
        self.assertEqual(keeper.half(), (helping.TEN, helping.SIXTY))
        keeper.redo()
        self.assertEqual(keeper.say("b", "c"), 60)
        self.assertEqual(len(keeper.numbers()), 60)


class TestTake(KeeperCase):
    def test_all_others_keep_their_numbers(self):
        keeper = Keeper(NAMES)
        for pair in (("a", "b"), ("b", "c"), ("d", "c")):
            keeper.say(*pair)
        self.assertIsNone(keeper.take(1))
        self.check_kept(keeper, NAMES, {0: ("a", "b"), 2: ("d", "c")})
        keeper.take(2)
        self.check_kept(keeper, NAMES, {0: ("a", "b")})
        self.assertEqual(keeper.say("b", "d"), 3)
        keeper.take(0)
        self.check_kept(keeper, NAMES, {3: ("b", "d")})
        keeper.take(3)
        self.check_kept(keeper, NAMES, {})
        self.assertEqual(keeper.say("b", "d"), 4)

    def test_what_is_not_kept(self):
        keeper = Keeper(NAMES)
        keeper.say("a", "b")
        keeper.say("b", "c")
        keeper.take(0)
        for number in (0, 2, 3, -1, -2, 60, 10 ** 39, 10 ** 40 - 1, -10 ** 39):
            self.check_refusal(NoSaying, "number", number, keeper.take, number)
            self.check_refusal(NoSaying, "number", number, keeper.saying, number)
        self.check_kept(keeper, NAMES, {1: ("b", "c")})
        self.check_refusal(NoSaying, "number", 0, Keeper(()).take, 0)


class TestUndoAndRedo(KeeperCase):
    def test_to_the_beginning_and_to_the_end(self):
        keeper = Keeper(NAMES)
        self.assertIsInstance(helping.refusal(keeper.undo), NoMore)
        self.assertIsInstance(helping.refusal(keeper.redo), NoMore)
        states = [{}]
        for deed in (("a", "b"), ("b", "c"), 0, ("d", "a"), 1, ("a", "b")):
            now = dict(states[-1])
            if isinstance(deed, int):
                keeper.take(deed)
                del now[deed]
            else:
                now[keeper.say(*deed)] = deed
            states.append(now)
        self.assertEqual(states[-1], {2: ("d", "a"), 3: ("a", "b")})
        for _ in range(2):
            for kept in states[-2::-1]:
                self.assertIsNone(keeper.undo())
                self.check_kept(keeper, NAMES, kept)
            self.assertIsInstance(helping.refusal(keeper.undo), NoMore)
            self.check_kept(keeper, NAMES, {})
            for kept in states[1:]:
                self.assertIsNone(keeper.redo())
                self.check_kept(keeper, NAMES, kept)
            self.assertIsInstance(helping.refusal(keeper.redo), NoMore)
            self.check_kept(keeper, NAMES, states[-1])

    def test_numbers_are_as_they_were(self):
        keeper = Keeper(NAMES)
        keeper.say("a", "b")
        keeper.say("b", "c")
        keeper.undo()
        self.assertEqual(keeper.say("d", "c"), 1)
        self.check_kept(keeper, NAMES, {0: ("a", "b"), 1: ("d", "c")})
        keeper.take(1)
        keeper.undo()
        self.assertEqual(keeper.say("d", "b"), 2)
        keeper.take(2)
        self.assertEqual(keeper.say("d", "b"), 3)

    def test_not_again_behind_another_deed(self):
        keeper = Keeper(NAMES)
        keeper.say("a", "b")
        keeper.say("b", "c")
        keeper.undo()
        keeper.say("d", "c")
        self.assertIsInstance(helping.refusal(keeper.redo), NoMore)
        keeper.undo()
        keeper.take(0)
        self.assertIsInstance(helping.refusal(keeper.redo), NoMore)
        self.check_kept(keeper, NAMES, {})
        keeper.undo()
        self.check_kept(keeper, NAMES, {0: ("a", "b")})
        keeper.redo()
        self.check_kept(keeper, NAMES, {})

    def test_what_is_refused_changes_nothing(self):
        keeper = Keeper(NAMES)
        keeper.say("a", "b")
        keeper.say("b", "c")
        keeper.undo()
        for deed in (
            (keeper.say, "b", "a"), (keeper.say, "a", "a"), (keeper.say, "z", "a"), (keeper.take, 1), (keeper.take, -1),
            (keeper.saying, 1), (keeper.knows, "a", "z"), (keeper.lead, "z", "a"),
        ):
            self.assertIsNotNone(helping.refusal(*deed))
            self.check_kept(keeper, NAMES, {0: ("a", "b")})
        keeper.redo()
        self.assertIsNotNone(helping.refusal(keeper.redo))
        self.check_kept(keeper, NAMES, {0: ("a", "b"), 1: ("b", "c")})
        keeper.undo()
        keeper.undo()
        self.assertIsNotNone(helping.refusal(keeper.undo))
        keeper.redo()
        self.check_kept(keeper, NAMES, {0: ("a", "b")})

    def test_what_is_asked_changes_nothing(self):
        keeper = Keeper(NAMES)
        keeper.say("a", "b")
        keeper.undo()
        self.check_kept(keeper, NAMES, {})
        keeper.redo()
        self.check_kept(keeper, NAMES, {0: ("a", "b")})


class Model:
    """What a keeper is to keep: all states, whole, and where it stands among them."""

    def __init__(self):
        self.states = [({}, 0)]
        self.at = 0

    def go_on(self, kept, following):
        self.states = self.states[:self.at + 1] + [(kept, following)]
        self.at += 1


class TestManyDeeds(KeeperCase):
    def say(self, keeper, model, names, chance):
        kept, following = model.states[model.at]
        one, other = chance.choice(names), chance.choice(names)
        half = (names, tuple(kept.values()))
        if one == other or (other, one) in helping.closed_by_sayings(half):
            refused = helping.refusal(keeper.say, one, other)
            self.assertIsInstance(refused, Clash)
            if one == other:
                self.assertEqual(refused.way, ())
            else:
                self.check_way(keeper, refused.way, other, one)
        elif len(kept) == 60:
            self.check_refusal(TooMany, "word", "sayings", keeper.say, one, other)
        else:
            self.assertEqual(keeper.say(one, other), following)
            model.go_on({**kept, following: (one, other)}, following + 1)

    def take(self, keeper, model, chance):
        kept, following = model.states[model.at]
        number = chance.randrange(-1, following + 2)
        if number in kept:
            self.assertIsNone(keeper.take(number))
            model.go_on({key: kept[key] for key in kept if key != number}, following)
        else:
            self.check_refusal(NoSaying, "number", number, keeper.take, number)

    def turn(self, keeper, model, step):
        deed = keeper.undo if step < 0 else keeper.redo
        if 0 <= model.at + step < len(model.states):
            self.assertIsNone(deed())
            model.at += step
        else:
            self.assertIsInstance(helping.refusal(deed), NoMore)

    def walk(self, names, seed, deeds, weights):
        chance = random.Random(seed)
        keeper, model = Keeper(list(names)), Model()
        for _ in range(deeds):
            deed = chance.choices(("say", "take", "undo", "redo"), weights)[0]
            if deed == "say":
                self.say(keeper, model, names, chance)
            elif deed == "take":
                self.take(keeper, model, chance)
            else:
                self.turn(keeper, model, -1 if deed == "undo" else 1)
            self.check_kept(keeper, names, model.states[model.at][0])

    def test_deeds_in_any_order(self):
        for seed in range(12):
            self.walk(NAMES, seed, 60, (5, 2, 3, 2))
        for seed in range(4):
            self.walk(("b", "e", "a", "d", "c"), seed, 60, (4, 2, 3, 3))
        self.walk(("a",), 1, 20, (1, 1, 1, 1))

    def test_many_sayings(self):
        self.walk(("b", "e", "a", "d", "c"), 7, 240, (10, 1, 1, 1))


class TestOwn(KeeperCase):
    def test_two_keepers_have_nothing_in_common(self):
        names = list(NAMES)
        one, other = Keeper(names), Keeper(names)
        one.say("a", "b")
        self.check_kept(one, NAMES, {0: ("a", "b")})
        self.check_kept(other, NAMES, {})
        self.assertIsInstance(helping.refusal(other.undo), NoMore)
        self.assertEqual(other.say("b", "a"), 0)
        one.undo()
        self.assertIsInstance(helping.refusal(other.redo), NoMore)
        self.check_kept(other, NAMES, {0: ("b", "a")})

    def test_kinds(self):
        keeper = Keeper(list(NAMES))
        keeper.say("a", "b")
        for thing in (keeper.numbers(), keeper.saying(0), keeper.half(), keeper.half()[0], keeper.half()[1],
                      keeper.best(), keeper.best()[0], keeper.best()[1], keeper.lead("a", "b")):
            self.assertIs(type(thing), tuple)
        self.assertIs(type(keeper.many()), int)

    def test_strange_things_stay_as_they_were(self):
        for thing in (["a", ["b"]], {"a": []}, ["a", "a"], ("a", {})):
            kept = copy.deepcopy(thing)
            helping.refusal(Keeper, thing)
            self.assertEqual(thing, kept)


if __name__ == "__main__":
    unittest.main()
