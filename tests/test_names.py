import string
import unittest

from halforder.names import are_unlike_names, is_name

NO_TEXTS = (None, True, False, 0, 1, 10 ** 39, [], ["a"], ("a",), (), {}, {"a": "a"})


class TestIsName(unittest.TestCase):
    def test_lengths(self):
        self.assertIs(is_name(""), False)
        self.assertIs(is_name("a"), True)
        self.assertIs(is_name("abcdefg"), True)
        self.assertIs(is_name("abcdefgh"), True)
        self.assertIs(is_name("abcdefghi"), False)
        self.assertIs(is_name("a" * 300), False)

    def test_each_sign_alone_and_within(self):
        signs = [chr(code) for code in range(32, 127)] + ["\n", "\r", "\t"]
        for sign in signs:
            small = sign in string.ascii_lowercase
            for text in (sign, "ab" + sign, sign + "ab", "a" + sign + "b", "abcdefg" + sign):
                self.assertIs(is_name(text), small, repr(text))

    def test_letters_beyond_these_are_none(self):
        for text in ("\u00e4", "a\u00df", "\u0430"):
            self.assertIs(is_name(text), False)

    def test_other_kinds(self):
        for thing in NO_TEXTS:
            self.assertIs(is_name(thing), False, repr(thing))


class TestAreUnlikeNames(unittest.TestCase):
    def test_tuples_of_unlike_names(self):
        for thing in ((), ("a",), ("b", "a"), tuple("abcdefghijklmno")):
            self.assertIs(are_unlike_names(thing), True)

    def test_all_else(self):
        for thing in (["a", "b"], ("a", "a"), ("a", "B"), ("a", ["b"]), ("a", None), "ab", None, {"a": "b"}):
            self.assertIs(are_unlike_names(thing), False, repr(thing))


if __name__ == "__main__":
    unittest.main()
