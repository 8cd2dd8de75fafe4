import unittest

from traylate import errors
from traylate.errors import (
    NoClerks, NoKind, NoLine, NoMove, NoProgram, NoStep, NoText, TrayError, Unlike, Waiting,
)

REFUSALS = [NoStep, NoClerks, NoProgram, NoKind, NoMove, Waiting, Unlike, NoText, NoLine]


class ErrorsTest(unittest.TestCase):
    def test_tray_error_stands_straight_under_value_error(self):
        self.assertEqual(TrayError.__bases__, (ValueError,))

    def test_each_refusal_stands_straight_under_tray_error(self):
        for refusal in REFUSALS:
            with self.subTest(refusal=refusal.__name__):
                self.assertEqual(refusal.__bases__, (TrayError,))
                self.assertTrue(issubclass(refusal, ValueError))

    def test_no_refusal_stands_under_another_one(self):
        for one in REFUSALS:
            for other in REFUSALS:
                with self.subTest(one=one.__name__, other=other.__name__):
                    self.assertEqual(issubclass(one, other), one is other)

    def test_each_refusal_bears_its_name(self):
        for refusal in REFUSALS:
            with self.subTest(refusal=refusal.__name__):
                self.assertIs(getattr(errors, refusal.__name__), refusal)

    def test_refusals_without_values_are_errors(self):
        for refusal in [NoStep, NoClerks, NoKind, NoMove, NoText, NoLine]:
            with self.subTest(refusal=refusal.__name__):
                error = refusal("why")
                self.assertIsInstance(error, TrayError)
                self.assertIsInstance(error, ValueError)
                self.assertEqual(str(error), "why")

    def test_no_program_has_clerk_and_place(self):
        error = NoProgram(2, 17)
        self.assertIsInstance(error, TrayError)
        self.assertIsInstance(error, ValueError)
        self.assertEqual((error.clerk, error.place), (2, 17))

    def test_waiting_has_clerk(self):
        error = Waiting(3)
        self.assertIsInstance(error, TrayError)
        self.assertIsInstance(error, ValueError)
        self.assertEqual(error.clerk, 3)

    def test_unlike_has_deed(self):
        error = Unlike(5)
        self.assertIsInstance(error, TrayError)
        self.assertIsInstance(error, ValueError)
        self.assertEqual(error.deed, 5)
        self.assertIsNone(Unlike(None).deed)


if __name__ == "__main__":
    unittest.main()
