import copy
import itertools
import unittest

import helping
from halforder.counting import count
from halforder.errors import NoOrder, TooMany
from halforder.orders import all_orders
from halforder.planchecker import lets_plan
from halforder.plans import answers, planned, steps
from halforder.questions import questions

BESIDE = (("b", "c", "a"), (("a", "b"),))
ABC = ("end", ("a", "b", "c"))
ACB = ("end", ("a", "c", "b"))
CAB = ("end", ("c", "a", "b"))
PLAN = ("ask", "b", "c", ABC, ("ask", "a", "c", ACB, CAB))
TURNED = ("ask", "c", "a", CAB, ("ask", "b", "c", ABC, ACB))
SIX = (tuple("fadbec"), ())
SMALL = helping.small_halves() + helping.four_name_halves()[::3]


def plans_of(half):
    pairs = list(itertools.permutations(half[0], 2))
    return [helping.plan_by_pairs(half, asked) for asked in (pairs, pairs[::-1], pairs[1::2] + pairs[::2])]


class TestAnswers(unittest.TestCase):
    def test_ordinary_plans(self):
        self.assertEqual(answers(BESIDE, PLAN, ("a", "b", "c")), (("b", "c"),))
        self.assertEqual(answers(BESIDE, PLAN, ("a", "c", "b")), (("c", "b"), ("a", "c")))
        self.assertEqual(answers(BESIDE, PLAN, ("c", "a", "b")), (("c", "b"), ("c", "a")))
        self.assertEqual(answers(BESIDE, TURNED, ("c", "a", "b")), (("c", "a"),))
        self.assertEqual(answers(BESIDE, TURNED, ("a", "c", "b")), (("a", "c"), ("c", "b")))

    def test_a_plan_that_is_an_end(self):
        for half, order in ((helping.NONE, ()), (helping.ONE, ("a",)), (helping.ROW, helping.TEN)):
            self.assertEqual(answers(half, ("end", order), order), ())
            self.assertIs(type(answers(half, ("end", order), order)), tuple)

    def check_walks(self, half, plan, rows):
        """Each order's answers lead to its own end, by pairs as they stand in it, and no other order has them all."""
        told = {}
        for order in rows:
            here = plan
            found = answers(half, plan, order)
            self.assertIs(type(found), tuple)
            for ahead, behind in found:
                self.assertIs(type((ahead, behind)), tuple)
                self.assertTrue(helping.stands_ahead(order, ahead, behind))
                self.assertEqual({ahead, behind}, set(here[1:3]))
                here = here[3] if (ahead, behind) == here[1:3] else here[4]
            self.assertEqual(here, ("end", order))
            self.assertTrue(all(type(answer) is tuple for answer in found))
            told[found] = order
        self.assertEqual(len(told), len(rows))
        for found, order in told.items():
            self.assertEqual(
                [row for row in rows if all(helping.stands_ahead(row, *answer) for answer in found)], [order]
            )

    def test_each_order_comes_to_its_own_end(self):
        for half in SMALL:
            for plan in plans_of(half):
                self.check_walks(half, plan, helping.orders(half))

    def test_plans_of_ten_names(self):
        for half in (helping.GRID, (helping.TEN, helping.ROW[1][1:])):
            for plan in plans_of(half)[:1] + [planned(half)]:
                self.check_walks(half, plan, all_orders(half))

    def test_what_is_no_order(self):
        for order in (("a", "b", "c"), ("a", "c", "b")):
            for thing in helping.wrong_orders(order) + list(helping.STRANGE) + [("b", "a", "c"), ("b", "c", "a")]:
                self.assertIsInstance(helping.refusal(answers, BESIDE, PLAN, thing), NoOrder, thing)
        for thing in helping.STRANGE:
            self.assertIsInstance(helping.refusal(answers, helping.NONE, ("end", ()), thing), NoOrder, thing)
        self.assertIsInstance(helping.refusal(answers, helping.ONE, ("end", ("a",)), ()), NoOrder)


class TestSteps(unittest.TestCase):
    def test_ordinary_plans(self):
        self.assertEqual(steps(PLAN), 5)
        self.assertEqual(steps(TURNED), 5)
        self.assertEqual(steps(("ask", "a", "b", ("end", ("a", "b")), ("end", ("b", "a")))), 2)

    def test_a_plan_that_is_an_end(self):
        for order in ((), ("a",), helping.TEN):
            self.assertEqual(steps(("end", order)), 0)
            self.assertIs(type(steps(("end", order))), int)

    def test_the_sum_over_its_ends(self):
        for half in SMALL + [helping.GRID]:
            for plan in plans_of(half):
                self.assertEqual(steps(plan), sum(askings for order, askings in helping.ends_of(plan)))

    def test_the_sum_over_all_orders_answers(self):
        for half in SMALL[::4] + [helping.GRID]:
            plan = planned(half)
            self.assertEqual(steps(plan), sum(len(answers(half, plan, order)) for order in all_orders(half)))


class TestPlanned(unittest.TestCase):
    def check_best(self, half, plan, rows):
        """Each asking asks a pair, as it stands there, whose lesser share is as great as any other's."""
        if plan[0] == "end":
            self.assertEqual(rows, [plan[1]])
            return
        lesser = {}
        for one, other in itertools.combinations(half[0], 2):
            ahead = sum(helping.stands_ahead(row, one, other) for row in rows)
            lesser[(one, other)] = min(ahead, len(rows) - ahead)
        self.assertIn(plan[1:3], lesser)
        self.assertEqual(lesser[plan[1:3]], max(lesser.values()), half)
        first = [row for row in rows if helping.stands_ahead(row, *plan[1:3])]
        self.check_best(half, plan[3], first)
        self.check_best(half, plan[4], [row for row in rows if row not in first])

    def test_against_listing(self):
        for half in helping.small_halves() + helping.four_name_halves() + helping.five_name_halves()[::7]:
            plan = planned(half)
            self.check_best(half, plan, helping.orders(half))
            self.assertEqual(lets_plan(half, plan), helping.depth_by_words(plan))

    def test_larger_halves(self):
        for half in helping.large_halves() + [SIX, helping.LISTED_719]:
            if count(half) <= 720:
                plan = planned(half)
                self.check_best(half, plan, all_orders(half))
                self.assertEqual(len(helping.ends_of(plan)), count(half))
                self.assertEqual(lets_plan(half, plan), helping.depth_by_words(plan))

    def test_the_first_asking_is_among_the_questions(self):
        for half in helping.four_name_halves()[::5]:
            asked = [pair for pair, shares in questions(half)]
            plan = planned(half)
            self.assertTrue(plan[1:3] in asked if asked else plan[0] == "end")

    def test_edges(self):
        self.assertEqual(planned(helping.NONE), ("end", ()))
        self.assertEqual(planned(helping.ONE), ("end", ("a",)))
        self.assertEqual(planned(helping.ROW), ("end", helping.TEN))
        self.assertEqual(planned(helping.FULL), ("end", helping.TEN))
        self.assertEqual(count(SIX), 720)
        self.assertEqual(len(helping.ends_of(planned(SIX))), 720)
        self.assertEqual(len(helping.ends_of(planned(helping.LISTED_719))), 719)

    def test_too_many(self):
        for half in (helping.UNLISTED_721, helping.FREE, helping.ZIGZAG, (tuple("abcdefg"), ())):
            refused = helping.refusal(planned, half)
            self.assertIsInstance(refused, TooMany)
            self.assertEqual(refused.word, "orders")


class TestNothingIsChanged(unittest.TestCase):
    def test_what_is_handed_in_stays(self):
        half, plan = copy.deepcopy((BESIDE, PLAN))
        for thing in (("a", "b", "c"), ["a", ["b"]], ("a", {}, ["c"])):
            kept = copy.deepcopy(thing)
            helping.refusal(answers, half, plan, thing)
            steps(plan)
            planned(half)
            self.assertEqual((half, plan, thing), (BESIDE, PLAN, kept))


if __name__ == "__main__":
    unittest.main()
