"""0.4: the refusals' classes."""

import unittest

from ringfell import errors

NUMBERED = ("BadWeb", "NoStep", "NoText")
WORDED = ("TooMany", "NoTie", "NoRing", "NotClear", "NotThree", "BadBoard", "NoRow", "NoBack")


class Errors(unittest.TestCase):
    def test_each_stands_straight_under_weberror(self):
        for name in NUMBERED + WORDED:
            with self.subTest(name):
                self.assertEqual(getattr(errors, name).__bases__, (errors.WebError,))

    def test_weberror_stands_under_valueerror(self):
        self.assertTrue(issubclass(errors.WebError, ValueError))

    def test_none_is_beneath_another(self):
        for one in NUMBERED + WORDED:
            for other in NUMBERED + WORDED:
                if one != other:
                    self.assertFalse(issubclass(getattr(errors, one), getattr(errors, other)))

    def test_numbered_ones_bear_their_number(self):
        for name in NUMBERED:
            for number in (-1, 0, 1, 5, 200, 10 ** 59):
                with self.subTest(name, number=number):
                    self.assertEqual(getattr(errors, name)(number).at, number)
                    self.assertEqual(getattr(errors, name)(at=number).at, number)

    def test_raised_ones_still_bear_it(self):
        for name in NUMBERED:
            with self.assertRaises(errors.WebError) as caught:
                raise getattr(errors, name)(-1)
            self.assertEqual(caught.exception.at, -1)

    def test_others_are_made_of_a_text(self):
        for name in WORDED + ("WebError",):
            with self.subTest(name):
                with self.assertRaises(ValueError) as caught:
                    raise getattr(errors, name)("these words")
                self.assertEqual(str(caught.exception), "these words")


if __name__ == "__main__":
    unittest.main()
