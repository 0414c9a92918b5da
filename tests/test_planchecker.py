import copy
import itertools
import unittest

import helping
from halforder.errors import NoPlan
from halforder.planchecker import lets_plan

BOTH = (("b", "a"), ())
ASK_BOTH = ("ask", "a", "b", ("end", ("a", "b")), ("end", ("b", "a")))
BESIDE = (("b", "c", "a"), (("a", "b"),))
# By the middle of the row first, or by its end first.
ABC = ("end", ("a", "b", "c"))
ACB = ("end", ("a", "c", "b"))
CAB = ("end", ("c", "a", "b"))
PLAN = ("ask", "b", "c", ABC, ("ask", "a", "c", ACB, CAB))
TURNED = ("ask", "c", "a", CAB, ("ask", "b", "c", ABC, ACB))
FREE_THREE = (("c", "a", "b"), ())


def word_by_words(rows, names, plan):
    """The word that is due of a plan, by the orders come to."""
    if type(plan) is not tuple or len(plan) not in (2, 5) or type(plan[0]) is not str:
        return "shape"
    if len(plan) == 2:
        if plan[0] != "end" or type(plan[1]) is not tuple:
            return "shape"
        return None if [plan[1]] == rows else "end"
    if plan[0] != "ask" or type(plan[1]) is not str or type(plan[2]) is not str:
        return "shape"
    if plan[1] not in names or plan[2] not in names or plan[1] == plan[2]:
        return "told"
    first = [row for row in rows if helping.stands_ahead(row, plan[1], plan[2])]
    return None if 0 < len(first) < len(rows) else "told"


def fault_by_words(rows, names, plan, path=()):
    """The first fault as (word, path), or None."""
    word = word_by_words(rows, names, plan)
    if word is not None:
        return (word, path)
    if plan[0] == "end":
        return None
    first = [row for row in rows if helping.stands_ahead(row, plan[1], plan[2])]
    second = [row for row in rows if row not in first]
    return fault_by_words(first, names, plan[3], path + (0,)) or fault_by_words(second, names, plan[4], path + (1,))


class PlansCase(unittest.TestCase):
    def check_word(self, word, path, half, plan):
        refused = helping.refusal(lets_plan, half, plan)
        self.assertIsInstance(refused, NoPlan, plan)
        self.assertEqual((refused.word, refused.path), (word, path), plan)
        self.assertIs(type(refused.path), tuple)
        self.assertTrue(all(type(step) is int for step in refused.path))

    def check_right(self, half, plan, depth):
        self.assertEqual(lets_plan(half, plan), depth)
        self.assertIs(type(lets_plan(half, plan)), int)


class TestRightPlans(PlansCase):
    def test_ordinary_plans(self):
        self.check_right(BOTH, ASK_BOTH, 1)
        self.check_right(BOTH, ("ask", "b", "a", ("end", ("b", "a")), ("end", ("a", "b"))), 1)
        self.check_right(BESIDE, PLAN, 2)
        self.check_right(BESIDE, TURNED, 2)
        self.check_right((("a", "b", "c"), (("a", "b"), ("a", "b"))), PLAN, 2)

    def test_a_plan_that_is_an_end(self):
        self.check_right(helping.NONE, ("end", ()), 0)
        self.check_right(helping.ONE, ("end", ("a",)), 0)
        self.check_right(helping.ROW, ("end", helping.TEN), 0)
        self.check_right(helping.FULL, ("end", helping.TEN), 0)

    def test_small_halves_by_any_order_of_pairs(self):
        for half in helping.small_halves() + helping.four_name_halves()[::5]:
            pairs = list(itertools.permutations(half[0], 2))
            for asked in (pairs, pairs[::-1], pairs[1::2] + pairs[::2]):
                plan = helping.plan_by_pairs(half, asked)
                self.check_right(half, plan, helping.depth_by_words(plan))

    def test_plans_of_ten_names(self):
        across = (("a", "f"), ("e", "j"))
        for sayings in (helping.ROW[1][1:], helping.ROW[1][:4] + helping.ROW[1][5:] + across, helping.GRID[1]):
            half = (helping.TEN, sayings)
            plan = helping.plan_by_pairs(half, list(itertools.permutations(helping.TEN, 2)))
            self.check_right(half, plan, helping.depth_by_words(plan))

    def test_one_name_beside_a_row_of_nine(self):
        # Asked from the row's beginning, and from its end.
        half = (helping.TEN, helping.ROW[1][1:])
        rows = [helping.TEN[1:place] + ("a",) + helping.TEN[place:] for place in range(1, 11)]
        from_first = ("end", rows[9])
        from_last = ("end", rows[0])
        for place in range(1, 10):
            from_first = ("ask", "a", helping.TEN[10 - place], ("end", rows[9 - place]), from_first)
            from_last = ("ask", "a", helping.TEN[place], from_last, ("end", rows[place]))
        self.check_right(half, from_first, 9)
        self.check_right(half, from_last, 9)


class TestShape(PlansCase):
    def test_strange_things(self):
        for thing in helping.STRANGE + (helping.strange_deep(90),):
            for half in (BOTH, helping.NONE, helping.ROW):
                self.check_word("shape", (), half, thing)
            self.check_word("shape", (0,), BOTH, ASK_BOTH[:3] + (thing,) + ASK_BOTH[4:])
            self.check_word("shape", (1,), BOTH, ASK_BOTH[:4] + (thing,))
            self.check_word("shape", (1, 0), BESIDE, PLAN[:4] + (PLAN[4][:3] + (thing,) + PLAN[4][4:],))

    def test_neither_of_the_two(self):
        for thing in (
            list(ASK_BOTH), ASK_BOTH[:4], ASK_BOTH + (0,), ASK_BOTH[1:], ("asks",) + ASK_BOTH[1:],
            ("end",) + ASK_BOTH[1:], (None,) + ASK_BOTH[1:], (["ask"],) + ASK_BOTH[1:],
            ("ask", ["a"]) + ASK_BOTH[2:], ("ask", "a", 1) + ASK_BOTH[3:],
            ("ask", ("a",)) + ASK_BOTH[2:], ("ask", None) + ASK_BOTH[2:], ("ask", "a", True) + ASK_BOTH[3:],
            ("ask", "a", {}) + ASK_BOTH[3:], (True,) + ASK_BOTH[1:], ("end",), ("end", ["a", "b"]), ("end", "ab"),
            ("end", None), ("end", ("a", "b"), ()), ["end", ("a", "b")], (("a", "b"), "end"), ("ask", ("a", "b")),
            ("End", ("a", "b")), ("end", {"a": "b"}), ("end", True), dict(enumerate(ASK_BOTH)),
        ):
            self.check_word("shape", (), BOTH, thing)
            self.check_word("shape", (), helping.ROW, thing)


class TestTold(PlansCase):
    def test_not_two_untold_names(self):
        for one, other in (
            ("a", "b"), ("b", "a"), ("a", "a"), ("c", "c"), ("a", "z"), ("z", "a"), ("", "a"), ("A", "c"), ("y", "z"),
            ("a", "c "), ("abcdefghijkl", "a"), ("\n", "c"),
        ):
            self.check_word("told", (), BESIDE, ("ask", one, other) + PLAN[3:])
            self.check_word("told", (), BESIDE, ("ask", one, other, None, None))
        self.check_word("told", (), helping.NONE, ASK_BOTH)
        self.check_word("told", (), helping.ONE, ASK_BOTH)
        self.check_word("told", (), helping.ROW, ASK_BOTH)

    def test_of_the_half_come_to(self):
        self.check_word("told", (0,), BESIDE, PLAN[:3] + (ASK_BOTH, PLAN[4]))
        # Behind the answer that b is ahead of c it is told that a is so, too.
        self.check_word("told", (0,), BESIDE, PLAN[:3] + (PLAN[4], PLAN[4]))
        self.check_word("told", (1,), BESIDE, PLAN[:4] + (PLAN,))
        self.check_word("told", (1, 1), BESIDE, PLAN[:4] + (PLAN[4][:4] + (PLAN[4],),))


class TestEnd(PlansCase):
    def test_no_row(self):
        self.check_word("end", (), BOTH, ("end", ("a", "b")))
        self.check_word("end", (), BOTH, ("end", ("b", "a")))
        self.check_word("end", (), helping.FREE, ("end", helping.TEN))
        self.check_word("end", (1,), BESIDE, PLAN[:4] + (("end", ("a", "c", "b")),))

    def test_another_order(self):
        for order in helping.wrong_orders(helping.TEN):
            if type(order) is tuple:
                self.check_word("end", (), helping.ROW, ("end", order))
        self.check_word("end", (), helping.ROW, ("end", helping.TEN[::-1]))
        for order in ((None,), ([],), (True,), (0,), ((),), ("a",)):
            self.check_word("end", (), helping.NONE, ("end", order))
        for order in ((), ("b",), ("a", "a"), (["a"],), (None,), ({},)):
            self.check_word("end", (), helping.ONE, ("end", order))
        self.check_word("end", (0,), BOTH, ASK_BOTH[:3] + (ASK_BOTH[4], ASK_BOTH[3]))
        self.check_word("end", (1,), BOTH, ASK_BOTH[:4] + (ASK_BOTH[3],))


class TestTheFirstFault(PlansCase):
    def test_each_plan_ahead_of_those_in_it(self):
        self.check_word("told", (), BESIDE, ("ask", "a", "b", None, None))
        self.check_word("shape", (0,), BESIDE, ("ask", "b", "c", None, None))
        self.check_word("end", (0,), BESIDE, ("ask", "b", "c", ("end", ()), None))
        self.check_word("shape", (1,), BESIDE, ("ask", "b", "c", PLAN[3], None))

    def test_all_of_first_ahead_of_second(self):
        plan = ("ask", "c", "b", PLAN[4][:4] + (None,), None)
        self.check_word("shape", (0, 1), BESIDE, plan)
        self.check_word("shape", (1,), BESIDE, ("ask", "c", "b", ("ask", "c", "a") + PLAN[4][4:2:-1], None))

    def test_forty_five_askings_deep(self):
        # The farther names of a pair are from one another, the sooner it is asked: so each answer tells one pair alone.
        asked = sorted(helping.RISING_SAYINGS, key=lambda pair: ord(pair[1]) - ord(pair[0]))
        for end, word, path in (
            (("end", helping.TEN), "shape", (0,) * 44 + (1,)), (("end", helping.TEN[::-1]), "end", (0,) * 45),
            (None, "shape", (0,) * 45), (ASK_BOTH, "told", (0,) * 45),
        ):
            plan = end
            for one, other in asked:
                plan = ("ask", one, other, plan, None)
            self.check_word(word, path, helping.FREE, plan)

    def test_every_change_of_right_plans(self):
        for half, plan in ((BOTH, ASK_BOTH), (BESIDE, PLAN), (BESIDE, TURNED), (helping.ONE, ("end", ("a",)))):
            rows = helping.orders(half)
            for thing in helping.changed(plan):
                due = fault_by_words(rows, half[0], thing)
                if due is None:
                    self.check_right(half, thing, helping.depth_by_words(thing))
                else:
                    self.check_word(due[0], due[1], half, thing)

    def test_every_plan_of_a_few_parts(self):
        ends = [("end", row) for row in itertools.permutations("abc")]
        for first, second, third in itertools.product(ends, repeat=3):
            for one, other in itertools.permutations("abc", 2):
                plan = ("ask", "b", "c", first, ("ask", one, other, second, third))
                due = fault_by_words(helping.orders(BESIDE), BESIDE[0], plan)
                if due is None:
                    self.check_right(BESIDE, plan, 2)
                else:
                    self.check_word(due[0], due[1], BESIDE, plan)

    def test_parts_of_a_right_plan_exchanged(self):
        pairs = list(itertools.permutations("cab", 2))
        plan = helping.plan_by_pairs(FREE_THREE, pairs)
        rows = helping.orders(FREE_THREE)
        parts = [plan, plan[3], plan[4], plan[3][3], plan[3][4], plan[4][3], plan[4][4]]
        for first, second in itertools.product(parts, repeat=2):
            new = plan[:3] + (first, second)
            due = fault_by_words(rows, FREE_THREE[0], new)
            if due is None:
                self.check_right(FREE_THREE, new, 3)
            else:
                self.check_word(due[0], due[1], FREE_THREE, new)


class TestNothingIsChanged(PlansCase):
    def test_what_is_handed_in_stays(self):
        half = copy.deepcopy(BESIDE)
        for plan in (PLAN, [PLAN], PLAN[:3] + ([1, {"a": []}], PLAN[4]), ("end", [1])):
            kept = copy.deepcopy(plan)
            first = helping.refusal(lets_plan, half, plan)
            second = helping.refusal(lets_plan, half, plan)
            self.assertEqual(first and vars(first), second and vars(second))
            self.assertEqual((half, plan), (BESIDE, kept))


if __name__ == "__main__":
    unittest.main()
