import unittest

from signalwise import errors

NAMES = ("NoText", "Twice", "NoName", "Unsettled", "TooMany", "NoRow", "NoProgram")


class Errors(unittest.TestCase):
    def test_each_stands_under_wise_error_and_value_error(self):
        self.assertTrue(issubclass(errors.WiseError, ValueError))
        for name in NAMES:
            self.assertTrue(issubclass(getattr(errors, name), errors.WiseError), name)

    def test_none_stands_under_another(self):
        for name in NAMES:
            for other in NAMES:
                under = issubclass(getattr(errors, name), getattr(errors, other))
                self.assertEqual(under, name == other, (name, other))


if __name__ == "__main__":
    unittest.main()
