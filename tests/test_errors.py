import copy
import unittest

from halforder import errors
from halforder.errors import HalfError

FIELDS = {
    "NoHalf": {"word": "saying", "number": 3},
    "NoText": {"row": 7},
    "NoName": {"name": "abc"},
    "TooMany": {"word": "orders"},
    "NoCover": {},
    "NoPlace": {"number": -5},
    "NoOrder": {},
    "NoJoin": {"word": "names"},
    "Clash": {"way": ("a", "b", "c")},
    "NoPaper": {"word": "half", "row": 4},
    "NoPlan": {"word": "told", "path": (0, 1, 0)},
    "NoBound": {"word": "least", "row": 9},
    "NoSaying": {"number": 12},
    "NoMore": {},
}


def made(name):
    fields = FIELDS[name]
    things = list(fields.values()) if fields else ["a text"]
    return getattr(errors, name)(*things)


class TestErrors(unittest.TestCase):
    def test_base_stands_under_value_error(self):
        self.assertTrue(issubclass(HalfError, ValueError))
        self.assertIsInstance(HalfError("a text"), HalfError)

    def test_each_stands_straight_under_the_base(self):
        for name in FIELDS:
            self.assertEqual(getattr(errors, name).__bases__, (HalfError,), name)

    def test_none_stands_under_another(self):
        for one in FIELDS:
            for other in FIELDS:
                under = issubclass(getattr(errors, one), getattr(errors, other))
                self.assertEqual(under, one == other, (one, other))

    def test_there_are_just_these_refusals(self):
        classes = [thing for thing in vars(errors).values() if isinstance(thing, type)]
        self.assertEqual({each.__name__ for each in classes}, set(FIELDS) | {"HalfError"})

    def test_fields_are_kept_in_order(self):
        for name, fields in FIELDS.items():
            self.assertEqual(vars(made(name)), fields, name)

    def test_each_is_made_of_all_its_things(self):
        for name, fields in FIELDS.items():
            if fields:
                with self.assertRaises(TypeError, msg=name):
                    getattr(errors, name)(*list(fields.values())[1:])

    def test_each_can_be_raised_and_taken_as_the_base(self):
        for name, fields in FIELDS.items():
            with self.assertRaises(HalfError) as taken:
                raise made(name)
            for field, value in fields.items():
                self.assertEqual(getattr(taken.exception, field), value)

    def test_those_without_fields_tell_their_text(self):
        for name in ("NoCover", "NoOrder", "NoMore"):
            self.assertEqual(str(made(name)), "a text")

    def test_a_copy_has_the_same_fields(self):
        for name, fields in FIELDS.items():
            self.assertEqual(vars(copy.copy(made(name))), fields)


if __name__ == "__main__":
    unittest.main()
