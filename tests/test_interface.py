"""The names and arguments of the interface, as the document lists them."""

import inspect
import unittest

from lockflight import costs, flight, notes, patience

FUNCTIONS = [
    (flight.Flight, ["levels"]),
    (flight.Flight.levels, ["self"]),
    (flight.Flight.boats, ["self"]),
    (flight.Flight.waiting, ["self", "side"]),
    (flight.Flight.through, ["self"]),
    (flight.Flight.side, ["self", "boat"]),
    (flight.Flight.place, ["self", "boat"]),
    (flight.Flight.come, ["self", "side"]),
    (flight.Flight.let, ["self", "gate"]),
    (flight.Flight.sail, ["self", "boat"]),
    (flight.Flight.drawn, ["self"]),
    (flight.Flight.out, ["self"]),
    (costs.cost, ["levels", "order"]),
    (costs.plan, ["levels", "order"]),
    (patience.rest, ["many", "ups", "downs", "last", "run", "patience"]),
    (patience.best, ["levels", "ups", "downs", "patience"]),
    (notes.drawing, ["flight"]),
    (notes.shown_order, ["order"]),
    (notes.read_order, ["text"]),
]


class InterfaceTest(unittest.TestCase):
    def test_arguments(self):
        for function, names in FUNCTIONS:
            with self.subTest(function):
                self.assertEqual(list(inspect.signature(function).parameters), names)

    def test_arguments_may_be_named(self):
        made = flight.Flight(levels=[True])
        self.assertEqual(costs.cost(levels=[False, False], order=["up"]), 2)
        self.assertEqual(costs.plan(levels=[True], order=[]), [])
        self.assertEqual(patience.rest(many=2, ups=1, downs=0, last="down", run=1, patience=1), 2)
        self.assertEqual(patience.best(levels=[True], ups=0, downs=1, patience=1), ["down"])
        self.assertEqual(notes.drawing(flight=made), "high")
        self.assertEqual(notes.shown_order(order=["down"]), "d")
        self.assertEqual(notes.read_order(text="u"), ["up"])


if __name__ == "__main__":
    unittest.main()
