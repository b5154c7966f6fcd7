"""The refusals of callwalk/errors.py."""

import unittest

from callwalk import errors

NAMES = ("NoStep", "NotPlain", "NoWay", "TooLong", "Endless", "NoText", "Twice", "NoName", "NoValue", "NoRow",
         "Reached")


class Refusals(unittest.TestCase):
    def test_walk_error_is_a_value_error(self):
        self.assertTrue(issubclass(errors.WalkError, ValueError))
        self.assertIsInstance(errors.WalkError("words"), ValueError)

    def test_each_stands_under_walk_error(self):
        for name in NAMES:
            with self.subTest(name=name):
                refusal = getattr(errors, name)
                self.assertTrue(issubclass(refusal, errors.WalkError))
                self.assertIsNot(refusal, errors.WalkError)
                self.assertTrue(issubclass(refusal, ValueError))

    def test_none_stands_under_another_one(self):
        for one in NAMES:
            for other in NAMES:
                if one != other:
                    with self.subTest(one=one, other=other):
                        self.assertFalse(issubclass(getattr(errors, one), getattr(errors, other)))

    def test_each_is_made_with_one_text_and_taken_by_its_name(self):
        for name in NAMES:
            with self.subTest(name=name):
                refusal = getattr(errors, name)
                with self.assertRaises(refusal) as taken:
                    raise refusal("words")
                self.assertIs(type(taken.exception), refusal)


if __name__ == "__main__":
    unittest.main()
