import itertools
import unittest

from hookrail import errors

NAMES = ["NoErrand", "NoRow", "NoReason", "NoYard", "NoRing", "NoText", "NoWord", "NoBox"]


class Refusals(unittest.TestCase):
    def test_rail_error_is_a_value_error(self):
        self.assertEqual(errors.RailError.__bases__, (ValueError,))

    def test_each_refusal_is_a_rail_error(self):
        for name in NAMES:
            with self.subTest(name=name):
                self.assertEqual(getattr(errors, name).__bases__, (errors.RailError,))
                self.assertEqual(getattr(errors, name).__name__, name)

    def test_none_stands_under_another_one(self):
        for one, other in itertools.permutations(NAMES, 2):
            with self.subTest(one=one, other=other):
                self.assertFalse(issubclass(getattr(errors, one), getattr(errors, other)))

    def test_each_can_be_raised_and_taken_as_any_refusal(self):
        for name in NAMES:
            with self.subTest(name=name):
                with self.assertRaises(errors.RailError):
                    raise getattr(errors, name)("words")


if __name__ == "__main__":
    unittest.main()
