import copy
import unittest

import helping
from halforder.errors import HalfError, NoText
from halforder.halves import is_tale
from halforder.reading import read_tale
from halforder.texts import tale_lines

SIXTY_LINES = ["names " + " ".join(helping.TEN)] + ["ahead " + " ".join(saying) for saying in helping.SIXTY]

WRONG_NAME_LINES = (
    "", " ", "name", "Names", "nam", "names ", " names", "names  ", "names a ", "names  a", " names a", "names a  b",
    "names a a", "names a b a", "names A", "names aB", "names a,b", "names a1", "names a b 1", "names abcdefghi",
    "names a b c d e f g h i j k", "names\na", "names a\n", "names\n", "names\ta", "namesa b", "a b names", "a names b",
    "ahead", "ahead a b", "a b", "a", "\n",
)

# Each stands behind "names a b c" and cannot.
WRONG_SAYING_LINES = (
    "", " ", "ahead", "ahead ", "ahead a", "ahead a ", "ahead  a", "ahead a b c", "ahead a b ", " ahead a b",
    "ahead  a b", "ahead a  b", "ahead a d", "ahead d a", "ahead d d", "ahead a B", "ahead A b", "ahead a 1",
    "ahead ab", "ahead a abcdefghi", "ahead a\nb", "ahead a b\n", "\nahead a b", "ahead\ta\tb", "Ahead a b",
    "behind a b", "aheads a b", "a ahead b", "a b ahead", "a b", "names", "names a b", "names a b c", "\n",
)


def wrong_row(lines):
    try:
        read_tale(lines)
    except NoText as refusal:
        return refusal.row
    return None


class TestReadTale(unittest.TestCase):
    def test_ordinary_lines(self):
        told = read_tale(["names bob ann cy", "ahead ann bob", "ahead bob cy"])
        self.assertEqual(told, (("bob", "ann", "cy"), (("ann", "bob"), ("bob", "cy"))))

    def test_kinds(self):
        told = read_tale(["names a b", "ahead a b", "ahead b a"])
        self.assertIs(is_tale(told), True)
        for part in (told, told[0], told[1], told[1][0], told[1][1]):
            self.assertIs(type(part), tuple)
        self.assertEqual(read_tale(["names"]), ((), ()))

    def test_edges(self):
        self.assertEqual(read_tale(["names a"]), (("a",), ()))
        self.assertEqual(read_tale(["names abcdefgh"]), (("abcdefgh",), ()))
        self.assertEqual(read_tale(["names a", "ahead a a"]), (("a",), (("a", "a"),)))
        self.assertEqual(read_tale(["names b a", "ahead a b", "ahead a b"]), (("b", "a"), (("a", "b"), ("a", "b"))))
        self.assertEqual(read_tale(SIXTY_LINES), (helping.TEN, helping.SIXTY))

    def test_names_called_like_words(self):
        lines = ["names names ahead", "ahead ahead names", "ahead names names"]
        self.assertEqual(read_tale(lines), (("names", "ahead"), (("ahead", "names"), ("names", "names"))))
        self.assertEqual(read_tale(["names names"]), (("names",), ()))

    def test_lines_read_and_written_again(self):
        for lines in (["names"], ["names b a", "ahead a b", "ahead b b"], SIXTY_LINES):
            self.assertEqual(tale_lines(read_tale(lines)), lines)


class TestRefusals(unittest.TestCase):
    def test_no_lines(self):
        self.assertEqual(wrong_row([]), 0)

    def test_wrong_name_lines(self):
        for line in WRONG_NAME_LINES:
            self.assertEqual(wrong_row([line]), 0, repr(line))
            self.assertEqual(wrong_row([line, "ahead a b", "no line"]), 0, repr(line))

    def test_wrong_saying_lines(self):
        for line in WRONG_SAYING_LINES:
            for row in (1, 2, 3):
                lines = ["names a b c"] + ["ahead a b"] * 3
                lines[row] = line
                self.assertEqual(wrong_row(lines), row, repr(line))

    def test_the_first_wrong_line_is_told(self):
        self.assertEqual(wrong_row(["names a b", "ahead a b", "ahead a z", "ahead"]), 2)
        self.assertEqual(wrong_row(["names a a", "ahead a z"]), 0)

    def test_sayings_of_no_names(self):
        self.assertEqual(wrong_row(["names", "ahead a a"]), 1)
        self.assertEqual(wrong_row(["names", "ahead"]), 1)

    def test_an_eleventh_name(self):
        self.assertIsNone(wrong_row(["names a b c d e f g h i j"]))
        self.assertEqual(wrong_row(["names a b c d e f g h i j k", "ahead a b"]), 0)

    def test_a_sixty_first_saying(self):
        self.assertEqual(wrong_row(SIXTY_LINES + ["ahead a b"]), 61)
        self.assertEqual(wrong_row(SIXTY_LINES + ["ahead a b"] * 39), 61)
        self.assertEqual(wrong_row(SIXTY_LINES + ["ahead"]), 61)
        self.assertEqual(wrong_row(SIXTY_LINES[:60] + ["ahead"] + ["ahead a b"]), 60)

    def test_lines_turned_about(self):
        self.assertEqual(wrong_row(["ahead a b", "names a b"]), 0)
        self.assertEqual(wrong_row(["names a b", "ahead a b", "names a b"]), 2)

    def test_the_refusal_is_of_the_base(self):
        with self.assertRaises(HalfError):
            read_tale(["no line"])


class TestNothingIsChanged(unittest.TestCase):
    def test_lines_stay_as_they_were(self):
        for lines in (["names b a", "ahead a b"], ["names a", "ahead a z"], [], SIXTY_LINES + ["ahead a b"]):
            kept = copy.deepcopy(lines)
            first = wrong_row(lines)
            self.assertEqual(lines, kept)
            self.assertEqual(wrong_row(lines), first)

    def test_lines_changed_later_change_nothing_told(self):
        lines = ["names b a", "ahead a b"]
        told = read_tale(lines)
        lines[1] = "ahead b a"
        lines.append("ahead a a")
        self.assertEqual(told, (("b", "a"), (("a", "b"),)))


if __name__ == "__main__":
    unittest.main()
