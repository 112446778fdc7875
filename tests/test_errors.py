"""The classes of refusals, as the interface names them."""

import unittest

from lockflight import errors

NAMES = ("BadFlight", "NoGate", "NoFall", "NoBoat", "NotFirst", "Shut", "Occupied", "BadText")


class ErrorsTest(unittest.TestCase):
    def test_lock_error_stands_straight_under_value_error(self):
        self.assertEqual(errors.LockError.__bases__, (ValueError,))

    def test_each_refusal_stands_straight_under_lock_error(self):
        for name in NAMES:
            with self.subTest(name):
                self.assertEqual(getattr(errors, name).__bases__, (errors.LockError,))
                self.assertEqual(getattr(errors, name).__name__, name)

    def test_the_eight_are_eight(self):
        self.assertEqual(len({getattr(errors, name) for name in NAMES}), 8)

    def test_each_can_be_raised_and_taken_as_a_lock_error(self):
        for name in NAMES:
            with self.subTest(name), self.assertRaises(errors.LockError):
                raise getattr(errors, name)("words")


if __name__ == "__main__":
    unittest.main()
