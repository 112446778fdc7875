"""What the tests share: pictures of a flight, refusals, all levels and orders, and a second telling of their cost."""

import itertools
import unittest

from lockflight import errors

FAR = (10**9, 2**63, 2**64, 10**30, 10**5000)


def all_levels(many):
    return [list(levels) for levels in itertools.product((False, True), repeat=many)]


def all_orders(many):
    return [list(order) for order in itertools.product(("up", "down"), repeat=many)]


def orders_of(ups, downs):
    """All orders of so many boats of each side, each once."""
    places = range(ups + downs)
    return [["up" if place in chosen else "down" for place in places] for chosen in itertools.combinations(places, ups)]


def told_cost(levels, order):
    """Point 8 told anew: only the first boat meets the levels, each other one meets what the one ahead left."""
    lockfuls = 0
    for place, side in enumerate(order):
        lows = levels.count(False) if place == 0 else (0 if order[place - 1] == "up" else len(levels))
        first_low = not levels[0] if place == 0 else lows > 0
        last_low = not levels[-1] if place == 0 else lows > 0
        lockfuls += 1 + lows - first_low if side == "up" else int(last_low)
    return lockfuls


def keeps(order, patience, last=None, run=0):
    """Point 11 told over the whole list: those gone ahead stand in front of it."""
    gone = [last] * run
    whole = gone + order
    for place in range(len(gone), len(whole)):
        side = whole[place]
        in_a_row = 1
        while in_a_row <= place and whole[place - in_a_row] == side:
            in_a_row += 1
        if in_a_row > patience and any(other != side for other in whole[place:]):
            return False
    return True


def answer(ask, number):
    try:
        return ask(number)
    except errors.NoBoat:
        return "NoBoat"


def picture(flight):
    """All that can be asked of a flight, boats that never came among it."""
    boats = range(-1, 30)
    return {
        "levels": flight.levels(),
        "boats": flight.boats(),
        "up": flight.waiting("up"),
        "down": flight.waiting("down"),
        "through": flight.through(),
        "drawn": flight.drawn(),
        "out": flight.out(),
        "places": [answer(flight.place, boat) for boat in boats],
        "sides": [answer(flight.side, boat) for boat in boats],
    }


def fill(flight, place):
    if 1 <= place <= len(flight.levels()) and not flight.levels()[place - 1]:
        fill(flight, place + 1)
        flight.let(place)


def empty(flight, place):
    if 1 <= place <= len(flight.levels()) and flight.levels()[place - 1]:
        empty(flight, place - 1)
        flight.let(place - 1)


class FlightCase(unittest.TestCase):
    def raises_just(self, error, ask, *values):
        with self.assertRaises(ValueError) as caught:
            ask(*values)
        self.assertIs(type(caught.exception), error)
        self.assertIsInstance(caught.exception, errors.LockError)

    def refused(self, error, flight, deed, number):
        """The deed is refused with just this class, and the flight is as it was."""
        ahead = picture(flight)
        with self.assertRaises(errors.LockError) as caught:
            getattr(flight, deed)(number)
        self.assertIs(type(caught.exception), error)
        self.assertEqual(picture(flight), ahead)
