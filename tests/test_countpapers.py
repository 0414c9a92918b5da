import copy
import unittest

import helping
from halforder.countchecker import lets_count
from halforder.counting import count
from halforder.countpapers import count_paper

LISTED = helping.small_halves() + helping.four_name_halves() + helping.five_name_halves()


class TestCountPaper(unittest.TestCase):
    def check(self, half):
        paper = count_paper(half)
        self.assertIs(type(paper), tuple)
        self.assertTrue(1 <= len(paper) <= 1200, half)
        number = lets_count(half, paper)
        self.assertEqual(number, count(half), half)
        return number

    def test_against_listing(self):
        for half in LISTED:
            self.assertEqual(self.check(half), len(helping.orders(half)), half)

    def test_large_halves(self):
        for half in helping.large_halves() + [helping.LISTED_719, helping.UNLISTED_721]:
            self.check(half)

    def test_edges(self):
        self.assertEqual(self.check(helping.NONE), 1)
        self.assertEqual(self.check(helping.ONE), 1)
        self.assertEqual(self.check(helping.FREE), 3628800)
        self.assertEqual(self.check(helping.ROW), 1)
        self.assertEqual(self.check(helping.FULL), 1)

    def test_ten_names_of_few_sayings(self):
        for size in range(9):
            self.check((helping.TEN, helping.RISING_SAYINGS[:size]))
            self.check((helping.TEN, helping.RISING_SAYINGS[::7][:size]))
            self.check((helping.TEN[::-1], helping.ROW[1][::2][:size]))

    def test_for_a_half_that_is_alike_and_no_other(self):
        paper = count_paper(helping.GRID)
        other = (helping.GRID[0][::-1], helping.GRID[1] * 3)
        self.assertEqual(lets_count(other, paper), 42)
        self.assertIsNotNone(helping.refusal(lets_count, helping.FREE, paper))

    def test_what_is_told_is_the_asker_s_own(self):
        for half in (helping.ZIGZAG, helping.NONE, helping.FULL):
            kept = copy.deepcopy(half)
            first = count_paper(half)
            self.assertEqual(lets_count(half, count_paper(half)), lets_count(half, first))
            self.assertEqual(half, kept)
            self.assertNotIn("[", repr(first))
            self.assertNotIn("{", repr(first))


if __name__ == "__main__":
    unittest.main()
