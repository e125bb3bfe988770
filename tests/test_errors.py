"""0.3 and errors.py: what refusals stand under."""

import unittest

from smallrooms import errors

REFUSALS = ("NoProgram", "NoWorths", "BadPaper", "BadPlan", "NoText", "NoStep")


class ErrorsTest(unittest.TestCase):
    def test_room_error_is_a_value_error(self):
        self.assertEqual(errors.RoomError.__bases__, (ValueError,))

    def test_refusals_stand_under_room_error_alone(self):
        for word in REFUSALS:
            with self.subTest(word):
                self.assertEqual(getattr(errors, word).__bases__, (errors.RoomError,))

    def test_none_stands_under_another(self):
        for one in REFUSALS:
            for other in REFUSALS:
                under = issubclass(getattr(errors, one), getattr(errors, other))
                self.assertEqual(under, one == other, (one, other))

    def test_they_are_raised_with_words(self):
        for word in REFUSALS:
            with self.assertRaises(errors.RoomError):
                raise getattr(errors, word)("some words")


if __name__ == "__main__":
    unittest.main()
