import unittest

from riffles import errors


class Errors(unittest.TestCase):
    def test_pack_error_stands_straight_under_value_error(self):
        self.assertEqual(errors.PackError.__bases__, (ValueError,))

    def test_each_refusal_stands_straight_under_pack_error(self):
        for refusal in (errors.BadOrder, errors.BadMove, errors.BadNumber, errors.BadText):
            with self.subTest(refusal.__name__):
                self.assertEqual(refusal.__bases__, (errors.PackError,))


if __name__ == "__main__":
    unittest.main()
