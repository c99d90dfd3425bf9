import unittest

from contactnets import errors
from tests.helper import REFUSALS as KINDS


class Errors(unittest.TestCase):
    def test_net_error_stands_under_value_error(self):
        self.assertEqual(errors.NetError.__bases__, (ValueError,))

    def test_each_stands_straight_under_net_error_alone(self):
        for kind in KINDS:
            with self.subTest(kind):
                self.assertEqual(getattr(errors, kind).__bases__, (errors.NetError,))

    def test_each_bears_its_own_name(self):
        for kind in KINDS + ["NetError"]:
            self.assertEqual(getattr(errors, kind).__name__, kind)

    def test_each_is_made_with_a_text_and_taken_by_name(self):
        for kind in KINDS + ["NetError"]:
            with self.subTest(kind):
                with self.assertRaises(getattr(errors, kind)) as caught:
                    raise getattr(errors, kind)("some words")
                self.assertIsInstance(caught.exception, errors.NetError)
                self.assertIsInstance(caught.exception, ValueError)
                self.assertEqual(str(caught.exception), "some words")


if __name__ == "__main__":
    unittest.main()
