"""Issue 2, promise 2: the errors."""

import unittest

from suresnap.errors import Contradiction, NoSuchChange, SnapError, TextError


class Errors(unittest.TestCase):
    def test_base_is_a_value_error(self):
        self.assertTrue(issubclass(SnapError, ValueError))
        self.assertEqual(str(SnapError("why")), "why")

    def test_all_derive_from_the_base(self):
        for error in (TextError, Contradiction, NoSuchChange):
            self.assertTrue(issubclass(error, SnapError))

    def test_kinds_differ(self):
        self.assertFalse(issubclass(Contradiction, NoSuchChange))
        self.assertFalse(issubclass(NoSuchChange, Contradiction))
        self.assertFalse(issubclass(TextError, (Contradiction, NoSuchChange)))

    def test_text_error_has_its_fields_and_text(self):
        error = TextError(12, "unexpected token")
        self.assertEqual(error.place, 12)
        self.assertEqual(error.message, "unexpected token")
        self.assertEqual(str(error), "unexpected token at 12")
        self.assertEqual(str(TextError(0, "too many pieces")), "too many pieces at 0")

    def test_created_with_one_string(self):
        self.assertIn("no history", str(Contradiction("no history")))
        self.assertIn("change 7", str(NoSuchChange("change 7")))

    def test_can_be_caught_as_value_error(self):
        for error in (TextError(1, "unexpected end"), Contradiction("x"), NoSuchChange("x")):
            with self.assertRaises(ValueError):
                raise error


if __name__ == "__main__":
    unittest.main()
