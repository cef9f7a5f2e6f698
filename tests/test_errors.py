import unittest

from byexample import errors

NAMES = ("NoProgram", "NoNumber", "NothingFits", "Twice", "NoExample")


class ErrorsTest(unittest.TestCase):
    def test_fit_error_stands_straight_under_value_error(self):
        self.assertEqual(errors.FitError.__bases__, (ValueError,))

    def test_each_refusal_stands_straight_under_fit_error(self):
        for name in NAMES:
            with self.subTest(name):
                self.assertEqual(getattr(errors, name).__bases__, (errors.FitError,))

    def test_no_refusal_stands_under_another(self):
        for name in NAMES:
            for other in NAMES:
                if name != other:
                    with self.subTest(name=name, other=other):
                        self.assertFalse(issubclass(getattr(errors, name), getattr(errors, other)))

    def test_each_can_be_raised_with_words_and_taken_as_a_fit_error(self):
        for name in NAMES:
            with self.subTest(name):
                with self.assertRaises(errors.FitError) as taken:
                    raise getattr(errors, name)("some words")
                self.assertEqual(str(taken.exception), "some words")


if __name__ == "__main__":
    unittest.main()
