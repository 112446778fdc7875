"""Point 8: what an order costs, boat by boat."""

import random
import unittest

from flight_checks import FlightCase, all_levels, all_orders, told_cost
from lockflight import errors
from lockflight.costs import cost

TOLD = [
    # One chamber: up always costs 1, down only where the chamber is low.
    ([False], ["up"], 1),
    ([True], ["up"], 1),
    ([False], ["down"], 1),
    ([True], ["down"], 0),
    ([False], ["up", "down"], 1),
    ([True], ["down", "up"], 1),
    ([False], ["down", "down", "down"], 3),
    ([True], ["up", "up", "up"], 3),
    # One boat: chamber 1 counts for nothing on the way up, and the highest alone on the way down.
    ([False, True, True], ["up"], 1),
    ([True, True, True], ["up"], 1),
    ([True, False, True], ["up"], 2),
    ([True, True, False], ["up"], 2),
    ([False, False, True], ["up"], 2),
    ([False, False, False], ["up"], 3),
    ([True, False, False], ["up"], 3),
    ([False, False, True], ["down"], 0),
    ([True, True, True], ["down"], 0),
    ([True, True, False], ["down"], 1),
    ([False, False, False], ["down"], 1),
    # Several boats.
    ([False] * 8, ["up"], 8),
    ([False] * 8, ["up"] * 12, 8 + 11),
    ([True] * 8, ["up"] * 12, 12),
    ([False] * 8, ["down"] * 12, 12),
    ([True] * 8, ["down"] * 12, 11),
    ([True] * 8, ["up", "down"] * 6, 1 + 5 * 8),
    ([True] * 8, ["down", "up"] * 6, 6 * 8),
    ([False] * 8, ["down", "up"] * 6, 1 + 6 * 8),
    ([False, True, False, True], ["down", "down", "up", "up", "down"], 0 + 1 + 4 + 1 + 0),
    ([False, True, False, True], ["up", "down", "down", "up"], 2 + 0 + 1 + 4),
]


class CostTest(FlightCase):
    def test_told_costs(self):
        for levels, order, lockfuls in TOLD:
            with self.subTest(levels=levels, order=order):
                self.assertEqual(cost(levels, order), lockfuls)
                self.assertEqual(told_cost(levels, order), lockfuls)

    def test_the_empty_order_costs_nothing(self):
        for many in range(1, 9):
            for levels in all_levels(many):
                self.assertEqual(cost(levels, []), 0)

    def test_one_and_two_boats_from_all_levels(self):
        for many in range(1, 9):
            for levels in all_levels(many):
                for order in all_orders(1) + all_orders(2):
                    self.assertEqual(cost(levels, order), told_cost(levels, order), (levels, order))

    def test_all_short_orders_of_short_flights(self):
        for many in range(1, 5):
            for levels in all_levels(many):
                for boats in range(3, 7):
                    for order in all_orders(boats):
                        self.assertEqual(cost(levels, order), told_cost(levels, order), (levels, order))

    def test_long_orders_of_any_flight(self):
        source = random.Random(8)
        for step in range(3000):
            levels = [source.random() < 0.5 for chamber in range(source.randrange(1, 9))]
            order = [source.choice(("up", "down")) for boat in range(source.randrange(7, 13))]
            self.assertEqual(cost(levels, order), told_cost(levels, order), (levels, order))

    def test_an_order_costs_boat_by_boat(self):
        order = ["up", "up", "down", "down", "up", "down", "up", "up", "up", "down", "down", "up"]
        steps = [4, 1, 0, 1, 5, 0, 5, 1, 1, 0, 1, 5]
        levels = [True, False, True, False, False]
        for boats in range(13):
            self.assertEqual(cost(levels, order[:boats]), sum(steps[:boats]))

    def test_a_longer_order_is_not_refused(self):
        self.assertEqual(cost([False] * 3, ["up", "down"] * 10), 30)
        self.assertEqual(cost([True] * 3, ["up"] * 13), 13)

    def test_a_list_of_another_length_is_refused(self):
        for many in (0, 9, 10, 16, 100, 5000):
            for level in (False, True):
                for order in ([], ["up"], ["down"], ["up", "down"] * 6):
                    with self.subTest(many=many, level=level, order=order):
                        self.raises_just(errors.BadFlight, cost, [level] * many, order)

    def test_a_cost_is_a_whole_number(self):
        for order in ([], ["up"], ["down"], ["up", "down"]):
            self.assertIs(type(cost([False, True], order)), int)

    def test_what_is_handed_in_is_neither_changed_nor_kept(self):
        levels = [True, False, False]
        order = ["up", "down", "down"]
        self.assertEqual(cost(levels, order), 4)
        self.assertEqual((levels, order), ([True, False, False], ["up", "down", "down"]))
        levels[1] = True
        order.append("up")
        self.assertEqual(cost(levels, order), 2 + 0 + 1 + 3)
        self.assertEqual(cost([True, False, False], ["up", "down", "down"]), 4)


if __name__ == "__main__":
    unittest.main()
