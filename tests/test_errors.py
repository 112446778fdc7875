"""The classes of refusals, as the interface names them, and each refusal brought about on purpose."""

import unittest

from lockflight import costs, errors, notes, patience
from lockflight.flight import Flight

NAMES = ("BadFlight", "NoGate", "NoFall", "NoBoat", "NotFirst", "Shut", "Occupied", "BadText")


class ErrorsTest(unittest.TestCase):
    def test_lock_error_stands_straight_under_value_error(self):
        self.assertEqual(errors.LockError.__bases__, (ValueError,))

    def test_each_refusal_stands_straight_under_lock_error(self):
        for name in NAMES:
            with self.subTest(name):
                self.assertEqual(getattr(errors, name).__bases__, (errors.LockError,))
                self.assertEqual(getattr(errors, name).__name__, name)

    def test_the_eight_are_eight(self):
        self.assertEqual(len({getattr(errors, name) for name in NAMES}), 8)

    def test_each_can_be_raised_and_taken_as_a_lock_error(self):
        for name in NAMES:
            with self.subTest(name), self.assertRaises(errors.LockError):
                raise getattr(errors, name)("words")


def flight_with(levels, sides):
    flight = Flight(levels)
    for side in sides:
        flight.come(side)
    return flight


def occupied():
    """A boat in chamber 1, which is low, and another one behind it."""
    flight = flight_with([False, False], ["up", "up"])
    flight.sail(0)
    return flight


REFUSALS = [
    ("BadFlight", lambda: Flight([])),
    ("BadFlight", lambda: Flight([True] * 9)),
    ("BadFlight", lambda: costs.cost([], ["up"])),
    ("BadFlight", lambda: costs.cost([True] * 9, [])),
    ("BadFlight", lambda: costs.plan([], [])),
    ("BadFlight", lambda: costs.plan([True] * 9, ["down"])),
    ("BadFlight", lambda: patience.best([], 0, 0, 1)),
    ("BadFlight", lambda: patience.best([True] * 9, 1, 1, 1)),
    ("NoGate", lambda: Flight([True]).let(2)),
    ("NoGate", lambda: Flight([True]).let(-1)),
    ("NoFall", lambda: Flight([True]).let(1)),
    ("NoFall", lambda: Flight([False]).let(0)),
    ("NoBoat", lambda: Flight([False]).sail(0)),
    ("NoBoat", lambda: Flight([False]).place(0)),
    ("NoBoat", lambda: Flight([False]).side(0)),
    ("NotFirst", lambda: flight_with([False], ["up", "up"]).sail(1)),
    ("Shut", lambda: flight_with([True], ["up"]).sail(0)),
    ("Shut", lambda: flight_with([False], ["down"]).sail(0)),
    ("Occupied", lambda: occupied().sail(1)),
    ("BadText", lambda: notes.read_order("x")),
    ("BadText", lambda: notes.read_order("u" * 41)),
]


class RefusalsTest(unittest.TestCase):
    def test_each_refusal_is_just_its_own(self):
        for name, deed in REFUSALS:
            with self.subTest(name), self.assertRaises(ValueError) as caught:
                deed()
            self.assertIsInstance(caught.exception, errors.LockError)
            self.assertEqual([other for other in NAMES if isinstance(caught.exception, getattr(errors, other))], [name])

    def test_all_eight_are_brought_about(self):
        self.assertEqual({name for name, deed in REFUSALS}, set(NAMES))


if __name__ == "__main__":
    unittest.main()
