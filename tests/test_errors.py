"""Points 6 and 7: the classes of errors."""

import unittest

from interline import errors

REASONED = (errors.ArgumentError, errors.PaperError, errors.SaleError, errors.TooMany)
ALL = REASONED + (errors.TextError, errors.NetError, errors.LogError, errors.CommandError)


class ErrorsTest(unittest.TestCase):

    def test_parameters_are_attributes(self):
        for kind in REASONED:
            self.assertEqual(kind("why").reason, "why")
            self.assertEqual(kind(reason="why").reason, "why")
        self.assertEqual(errors.TextError(7).at, 7)
        self.assertEqual(errors.TextError(at=7).at, 7)
        self.assertEqual(errors.CommandError("sell").line, "sell")
        self.assertEqual(errors.CommandError(line=None).line, None)
        error = errors.NetError((3, 1), "times")
        self.assertEqual((error.path, error.reason), ((3, 1), "times"))
        error = errors.LogError(number=4, reason="seats")
        self.assertEqual((error.number, error.reason), (4, "seats"))

    def test_each_is_an_interline_error_and_a_value_error(self):
        self.assertTrue(issubclass(errors.InterlineError, ValueError))
        for kind in ALL:
            self.assertTrue(issubclass(kind, errors.InterlineError))

    def test_none_is_a_subclass_of_another_one(self):
        for kind in ALL:
            for other in ALL:
                self.assertEqual(issubclass(kind, other), kind is other)

    def test_each_one_is_made_by_itself(self):
        for kind in ALL:
            self.assertIn("__init__", vars(kind))
            self.assertEqual(kind.__module__, "interline.errors")

    def test_as_many_parameters_as_told(self):
        for kind in ALL:
            self.assertRaises(TypeError, kind)
            self.assertRaises(TypeError, kind, 1, 2, 3)


if __name__ == "__main__":
    unittest.main()
