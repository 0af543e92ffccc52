import unittest

from backhead import errors

NAMES = ("NoMachine", "NoWord", "NoReader", "NoFate", "Unlike", "TooBig", "NoText")


class Errors(unittest.TestCase):

    def test_any_refusal_is_a_value_error(self):
        self.assertEqual(errors.HeadError.__bases__, (ValueError,))

    def test_each_stands_right_under_it(self):
        for name in NAMES:
            with self.subTest(name):
                self.assertEqual(getattr(errors, name).__bases__, (errors.HeadError,))

    def test_none_is_another(self):
        self.assertEqual(len({getattr(errors, name) for name in NAMES}), len(NAMES))
        for name in NAMES:
            for other in NAMES:
                if name != other:
                    self.assertFalse(issubclass(getattr(errors, name), getattr(errors, other)))

    def test_they_are_raised_and_taken_by_name(self):
        for name in NAMES:
            with self.assertRaises(errors.HeadError):
                raise getattr(errors, name)("words")


if __name__ == "__main__":
    unittest.main()
