"""What the tests of a flight share: pictures of it, refusals, and all levels of a length."""

import itertools
import unittest

from lockflight import errors

FAR = (10**9, 2**63, 2**64, 10**30, 10**5000)


def all_levels(many):
    return [list(levels) for levels in itertools.product((False, True), repeat=many)]


def answer(ask, number):
    try:
        return ask(number)
    except errors.NoBoat:
        return "NoBoat"


def picture(flight):
    """All that can be asked of a flight, boats that never came among it."""
    boats = range(-1, 30)
    return {
        "levels": flight.levels(),
        "boats": flight.boats(),
        "up": flight.waiting("up"),
        "down": flight.waiting("down"),
        "through": flight.through(),
        "drawn": flight.drawn(),
        "out": flight.out(),
        "places": [answer(flight.place, boat) for boat in boats],
        "sides": [answer(flight.side, boat) for boat in boats],
    }


class FlightCase(unittest.TestCase):
    def refused(self, error, flight, deed, number):
        """The deed is refused with just this class, and the flight is as it was."""
        ahead = picture(flight)
        with self.assertRaises(errors.LockError) as caught:
            getattr(flight, deed)(number)
        self.assertIs(type(caught.exception), error)
        self.assertEqual(picture(flight), ahead)
