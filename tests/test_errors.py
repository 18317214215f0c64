import unittest

from leftin.errors import BadKinds, BadMany, BadRow, LeftError


class ErrorsTest(unittest.TestCase):
    def test_left_error_is_straight_under_value_error(self):
        self.assertEqual(LeftError.__bases__, (ValueError,))

    def test_each_refusal_is_straight_under_left_error(self):
        for refusal in (BadRow, BadKinds, BadMany):
            with self.subTest(refusal=refusal.__name__):
                self.assertEqual(refusal.__bases__, (LeftError,))

    def test_no_refusal_is_under_another(self):
        refusals = (BadRow, BadKinds, BadMany)
        for one in refusals:
            for other in refusals:
                with self.subTest(one=one.__name__, other=other.__name__):
                    self.assertEqual(issubclass(one, other), one.__name__ == other.__name__)

    def test_names(self):
        names = [error.__name__ for error in (LeftError, BadRow, BadKinds, BadMany)]
        self.assertEqual(names, ["LeftError", "BadRow", "BadKinds", "BadMany"])

    def test_taken_as_what_they_stand_under(self):
        for refusal in (BadRow, BadKinds, BadMany):
            for base in (LeftError, ValueError):
                with self.subTest(refusal=refusal.__name__, base=base.__name__):
                    with self.assertRaises(base):
                        raise refusal("words")


if __name__ == "__main__":
    unittest.main()
