"""The interface's list of error classes."""

import unittest

from sidedeeds import errors

BELOW = ("NoDeed", "Clash", "BadRounds", "TooMany", "NameTaken", "Locked", "NoText")


class ErrorClasses(unittest.TestCase):
    def test_the_top_is_a_value_error(self):
        self.assertEqual(errors.SideError.__bases__, (ValueError,))

    def test_each_is_below_the_top(self):
        for name in BELOW:
            with self.subTest(name=name):
                kind = getattr(errors, name)
                self.assertTrue(issubclass(kind, errors.SideError))
                self.assertTrue(issubclass(kind, ValueError))
                self.assertIsNot(kind, errors.SideError)

    def test_none_is_below_another(self):
        for one in BELOW:
            for other in BELOW:
                if one != other:
                    with self.subTest(one=one, other=other):
                        self.assertFalse(issubclass(getattr(errors, one), getattr(errors, other)))

    def test_each_can_be_raised_and_caught_alone(self):
        for name in BELOW:
            with self.subTest(name=name):
                kind = getattr(errors, name)
                with self.assertRaises(kind) as caught:
                    raise kind("why")
                self.assertIs(caught.exception.__class__, kind)
                self.assertEqual(str(caught.exception), "why")


if __name__ == "__main__":
    unittest.main()
