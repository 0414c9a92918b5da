"""What holds over the whole program: the interface, and the promises that several modules keep together."""

import importlib
import inspect
import itertools
import math
import unittest

import helping
from halforder.boundchecker import lets_bound
from halforder.bounds import by_behind, by_cover, by_layers
from halforder.bunches import cover
from halforder.countchecker import lets_count
from halforder.counting import count
from halforder.countpapers import count_paper
from halforder.errors import Clash
from halforder.joins import above, beside, called, only, said, turned, without
from halforder.keeping import Keeper
from halforder.leastplans import least_plan
from halforder.neighbours import apart, near_list
from halforder.orders import all_orders, number_of, order_of
from halforder.planchecker import lets_plan
from halforder.plans import answers, planned, steps
from halforder.questions import best, questions
from halforder.reading import read_tale
from halforder.shares import share
from halforder.texts import tale_lines

# For each module its functions, with how many things each is asked of.
INTERFACE = {
    "names": {"is_name": 1},
    "halves": {"is_tale": 1, "is_half": 1, "ring": 1, "right_half": 1},
    "texts": {"tale_lines": 1},
    "reading": {"read_tale": 1},
    "closures": {
        "is_ahead": 3, "ahead_of": 2, "behind": 2, "closed": 1, "bare": 1, "untold": 1, "is_row": 1, "alike": 2,
    },
    "layers": {"layers": 1, "longest": 1},
    "bunches": {"widest": 1, "cover": 1, "is_bunch": 2, "is_cover": 2},
    "counting": {"count": 1},
    "shares": {"share": 3, "places": 2, "height": 2},
    "bounds": {"by_layers": 1, "by_cover": 2, "by_behind": 1},
    "orders": {"is_order": 2, "all_orders": 1, "order_of": 2, "number_of": 2, "next_order": 2},
    "neighbours": {"apart": 3, "way_between": 3, "sides": 1, "near_list": 1, "single_list": 1},
    "joins": {"above": 2, "beside": 2, "turned": 1, "without": 2, "only": 2, "called": 2, "said": 3},
    "countchecker": {"rows_fault": 1, "lets_count": 2},
    "countpapers": {"count_paper": 1},
    "questions": {"questions": 1, "best": 1},
    "planchecker": {"lets_plan": 2},
    "plans": {"answers": 3, "steps": 1, "planned": 1},
    "boundchecker": {"lets_bound": 2},
    "leastplans": {"least_plan": 1},
    "keeping": {"Keeper": 1},
}
DEEDS = {
    "say": 2, "take": 1, "undo": 0, "redo": 0, "numbers": 0, "saying": 1, "half": 0, "many": 0, "best": 0, "knows": 2,
    "lead": 2,
}
ERRORS = (
    "NoHalf NoText NoName TooMany NoCover NoPlace NoOrder NoJoin Clash NoPaper NoPlan NoBound NoSaying NoMore".split()
)

FEW = [helping.NONE, helping.ONE, helping.ROW, helping.GRID, helping.CLOSED_FENCE, helping.OPEN_FENCE]
SOME = FEW + helping.small_halves()[::3] + helping.four_name_halves()[::25] + helping.five_name_halves()[::60]
LARGE = helping.large_halves()


class TestInterface(unittest.TestCase):
    def test_names_and_arguments(self):
        for module, functions in INTERFACE.items():
            held = importlib.import_module(f"halforder.{module}")
            for name, arguments in functions.items():
                parameters = inspect.signature(getattr(held, name)).parameters
                self.assertEqual(len(parameters), arguments, (module, name))

    def test_the_keeper(self):
        for name, arguments in DEEDS.items():
            self.assertEqual(len(inspect.signature(getattr(Keeper, name)).parameters), 1 + arguments, name)

    def test_errors_stand_straight_under_one(self):
        held = importlib.import_module("halforder.errors")
        self.assertEqual(held.HalfError.__bases__, (ValueError,))
        for name in ERRORS:
            self.assertEqual(getattr(held, name).__bases__, (held.HalfError,))


class TestCounts(unittest.TestCase):
    def test_counts_keep_to_sums(self):
        for half in SOME + LARGE:
            whole = count(half)
            for (one, other), shares in questions(half)[::4]:
                both = (count(said(half, one, other)), count(said(half, other, one)))
                self.assertEqual(both, shares)
                self.assertEqual(sum(both), whole)
                self.assertEqual(shares, (share(half, one, other), share(half, other, one)))
            self.assertEqual(count(turned(half)), whole)
            self.assertEqual(count(called(half, tuple("qrstuvwxyz"[:len(half[0])]))), whole)

    def test_put_together(self):
        new = tuple("vwxyz")
        for one, other in itertools.product(helping.five_name_halves()[::90], repeat=2):
            other = called(other, new)
            product = count(one) * count(other)
            self.assertEqual(count(above(one, other)), product)
            self.assertEqual(count(beside(one, other)), product * math.comb(10, 5))

    def test_counts_lie_between(self):
        for half in SOME + LARGE:
            self.assertTrue(by_layers(half) <= count(half) <= by_cover(half, cover(half)))
            self.assertLessEqual(by_behind(half), count(half))

    def test_count_papers_tell_the_count(self):
        for half in SOME + LARGE:
            self.assertEqual(lets_count(half, count_paper(half)), count(half))

    def test_a_count_paper_of_one_half_is_let_by_for_no_other(self):
        for one, other in itertools.permutations(FEW, 2):
            refused = helping.refusal(lets_count, one, count_paper(other))
            self.assertEqual((refused.word, refused.row), ("last", len(count_paper(other)) - 1))


class TestOrders(unittest.TestCase):
    def test_numbers_and_orders_are_each_other_s_way_back(self):
        for half in SOME:
            listed = all_orders(half)
            self.assertEqual([order_of(half, number) for number in range(count(half))], listed)
            self.assertEqual([number_of(half, order) for order in listed], list(range(count(half))))
        for half in LARGE:
            for number in (0, count(half) // 3, count(half) - 1):
                self.assertEqual(number_of(half, order_of(half, number)), number)

    def test_near_lists(self):
        for half in SOME:
            listed = near_list(half)
            self.assertEqual(sorted(listed), sorted(all_orders(half)))
            self.assertTrue(all(1 <= apart(half, one, other) <= 3 for one, other in zip(listed, listed[1:])))


class TestQuestionsAndPlans(unittest.TestCase):
    def test_no_answer_clashes_and_each_order_is_come_to(self):
        for half in SOME:
            plans = [planned(half)] + ([least_plan(half)[1]] if count(half) <= 60 else [])
            for plan, order in itertools.product(plans, all_orders(half)[::3]):
                keeper = Keeper(half[0])
                for pair in half[1] + answers(half, plan, order):
                    keeper.say(*pair)
                self.assertEqual(all_orders(keeper.half()), [order])
                self.assertIsNone(keeper.best())

    def test_the_best_question_parts_no_worse(self):
        for half in SOME + LARGE:
            lesser = [min(shares) for pair, shares in questions(half)]
            self.assertEqual(max(lesser, default=None), best(half) and min(best(half)[1]))

    def test_no_plan_is_less_deep_than_a_bound(self):
        for half in SOME:
            if count(half) <= 60:
                depth, plan, paper = least_plan(half)
                self.assertEqual((lets_plan(half, plan), lets_bound(half, paper)), (depth, depth))
                self.assertGreaterEqual(lets_plan(half, planned(half)), depth)
                self.assertGreaterEqual(2 ** depth, count(half))
                self.assertGreaterEqual(depth * count(half), steps(plan))
                other = helping.plan_by_pairs(half, list(itertools.permutations(half[0], 2)))
                self.assertGreaterEqual(lets_plan(half, other), depth)


class TestClashes(unittest.TestCase):
    def test_a_clash_comes_with_the_way_that_says_otherwise(self):
        for half in SOME:
            keeper = Keeper(half[0])
            for saying in half[1]:
                keeper.say(*saying)
            for one, other in helping.closed_by_sayings(half):
                kept = helping.refusal(keeper.say, other, one)
                told = helping.refusal(said, half, other, one)
                self.assertEqual((type(kept), type(told)), (Clash, Clash))
                steps_kept = [keeper.saying(number) for number in kept.way]
                self.assertEqual((steps_kept[0][0], steps_kept[-1][1]), (one, other))
                self.assertTrue(all(first[1] == second[0] for first, second in zip(steps_kept, steps_kept[1:])))
                self.assertEqual((told.way[0], told.way[-1]), (one, other))
                self.assertTrue(all(step in half[1] for step in zip(told.way, told.way[1:])))
            self.assertEqual(keeper.half(), half)


class TestHandedInAgain(unittest.TestCase):
    def test_what_was_told_may_be_handed_in(self):
        for half in SOME + LARGE:
            again = read_tale(tale_lines(half))
            self.assertEqual(again, half)
            for told in [turned(half), only(half, half[0][::2])] + [without(half, name) for name in half[0][:1]]:
                self.assertEqual(read_tale(tale_lines(told)), told)
                self.assertEqual(lets_count(told, count_paper(told)), count(told))
                self.assertEqual(Keeper(told[0]).half(), (told[0], ()))


if __name__ == "__main__":
    unittest.main()
