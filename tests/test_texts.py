import copy
import itertools
import unittest

import helping
from halforder.reading import read_tale
from halforder.texts import tale_lines


class TestTaleLines(unittest.TestCase):
    def test_ordinary_tales(self):
        tale = (("bob", "ann", "cy"), (("ann", "bob"), ("bob", "cy")))
        self.assertEqual(tale_lines(tale), ["names bob ann cy", "ahead ann bob", "ahead bob cy"])

    def test_edges(self):
        self.assertEqual(tale_lines(((), ())), ["names"])
        self.assertEqual(tale_lines((("a",), ())), ["names a"])
        self.assertEqual(tale_lines((("a",), (("a", "a"), ("a", "a")))), ["names a", "ahead a a", "ahead a a"])
        lines = tale_lines((helping.TEN, helping.SIXTY))
        self.assertEqual(len(lines), 61)
        self.assertEqual(lines[0], "names a b c d e f g h i j")
        self.assertEqual(lines[60], "ahead " + " ".join(helping.SIXTY[59]))

    def test_names_called_like_words(self):
        tale = (("ahead", "names"), (("names", "ahead"), ("ahead", "names")))
        self.assertEqual(tale_lines(tale), ["names ahead names", "ahead names ahead", "ahead ahead names"])

    def test_kinds(self):
        lines = tale_lines((("a", "b"), (("a", "b"),)))
        self.assertIs(type(lines), list)
        self.assertTrue(all(type(line) is str for line in lines))

    def test_written_and_read_again(self):
        for tale in itertools.chain(helping.small_tales(), helping.four_name_tales()):
            self.assertEqual(read_tale(tale_lines(tale)), tale)
        tale = (helping.TEN, helping.SIXTY)
        self.assertEqual(read_tale(tale_lines(tale)), tale)

    def test_what_is_told_is_the_askers_own(self):
        tale = (("a", "b"), (("a", "b"),))
        kept = copy.deepcopy(tale)
        lines = tale_lines(tale)
        lines.append("more")
        lines[0] = "other"
        self.assertEqual(tale, kept)
        self.assertEqual(tale_lines(tale), ["names a b", "ahead a b"])


if __name__ == "__main__":
    unittest.main()
