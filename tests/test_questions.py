import copy
import math
import unittest

import helping
from halforder.closures import untold
from halforder.counting import count
from halforder.questions import best, questions
from halforder.shares import share

HALF = (("d", "c", "a", "b"), (("b", "c"), ("a", "b"), ("a", "b")))
LISTED = helping.small_halves() + helping.four_name_halves() + helping.five_name_halves()


def questions_by_listing(half):
    rows = helping.orders(half)
    told = helping.closed_by_sayings(half)
    found = []
    for place, one in enumerate(half[0]):
        for other in half[0][place + 1:]:
            if not {(one, other), (other, one)} & told:
                ahead = sum(helping.stands_ahead(row, one, other) for row in rows)
                found.append(((one, other), (ahead, len(rows) - ahead)))
    return found


class TestQuestions(unittest.TestCase):
    def test_an_ordinary_half(self):
        due = [(("d", "c"), (3, 1)), (("d", "a"), (1, 3)), (("d", "b"), (2, 2))]
        self.assertEqual(questions(HALF), due)
        self.assertEqual(best(HALF), (("d", "b"), (2, 2)))

    def test_against_listing(self):
        for half in LISTED:
            self.assertEqual(questions(half), questions_by_listing(half), half)

    def test_large_halves(self):
        for half in helping.large_halves():
            found = questions(half)
            self.assertEqual(tuple(pair for pair, shares in found), untold(half))
            for pair, shares in found[::3]:
                self.assertEqual(shares, (share(half, *pair), share(half, *pair[::-1])), (half, pair))
            self.assertTrue(all(sum(shares) == count(half) and min(shares) >= 1 for pair, shares in found))

    def test_edges(self):
        for half in (helping.NONE, helping.ONE, helping.ROW, helping.FULL):
            self.assertEqual(questions(half), [])
            self.assertIsNone(best(half))
        each = math.factorial(10) // 2
        self.assertEqual(questions(helping.FREE), [(pair, (each, each)) for pair in helping.RISING_SAYINGS])
        self.assertEqual(questions((("b", "a"), ())), [(("b", "a"), (1, 1))])
        self.assertEqual(best((("b", "a"), ())), (("b", "a"), (1, 1)))

    def test_kinds(self):
        found = questions(HALF)
        self.assertIs(type(found), list)
        for question in found + [best(HALF)]:
            self.assertEqual([type(part) for part in question], [tuple, tuple])
            self.assertEqual([type(part) for part in question[0] + question[1]], [str, str, int, int])


class TestBest(unittest.TestCase):
    def test_it_parts_no_worse_than_every_other_one(self):
        for half in LISTED + helping.large_halves():
            found = questions(half)
            told = best(half)
            if not found:
                self.assertIsNone(told)
                continue
            self.assertIn(told, found)
            self.assertEqual(min(told[1]), max(min(shares) for pair, shares in found), half)

    def test_a_greater_share_alone_is_no_better(self):
        # d parts the row of four most unevenly at its ends, most evenly in the middle.
        half = (("e", "a", "b", "c", "d"), (("a", "b"), ("b", "c"), ("c", "d")))
        self.assertIn(best(half), [(("e", "b"), (2, 3)), (("e", "c"), (3, 2))])


class TestNothingIsChanged(unittest.TestCase):
    def test_what_is_told_is_the_asker_s_own(self):
        half = copy.deepcopy(HALF)
        first = questions(half)
        first.clear()
        first.append(None)
        self.assertEqual(questions(half), questions_by_listing(HALF))
        self.assertEqual(best(half), (("d", "b"), (2, 2)))
        self.assertEqual(half, HALF)


if __name__ == "__main__":
    unittest.main()
