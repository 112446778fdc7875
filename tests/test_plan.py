"""Point 10: a plan of an order, done with a flight."""

import random
import unittest

from flight_checks import FlightCase, all_levels, all_orders, told_cost
from lockflight import errors
from lockflight.costs import cost, plan
from lockflight.flight import Flight


class PlanTest(FlightCase):
    def check_form(self, deeds, order):
        self.assertIs(type(deeds), list)
        for deed in deeds:
            self.assertIs(type(deed), tuple)
            self.assertEqual(len(deed), 2)
            self.assertIn(deed[0], ("let", "sail"))
            self.assertIs(type(deed[1]), int)
            if deed[0] == "sail":
                self.assertIn(deed[1], range(len(order)))

    def check_plan(self, levels, order):
        deeds = plan(levels, order)
        self.check_form(deeds, order)
        flight = Flight(levels)
        for side in order:
            flight.come(side)
        for name, number in deeds:
            getattr(flight, name)(number)
        self.assertEqual(flight.through(), list(range(len(order))), (levels, order))
        self.assertEqual(flight.drawn(), cost(levels, order), (levels, order))
        self.assertEqual(flight.drawn(), told_cost(levels, order), (levels, order))
        behind = [order[-1] == "up"] * len(levels) if order else levels
        self.assertEqual(flight.levels(), behind, (levels, order))

    def test_one_and_two_boats_from_all_levels(self):
        for many in range(1, 9):
            for levels in all_levels(many):
                for order in all_orders(1) + all_orders(2):
                    self.check_plan(levels, order)

    def test_short_orders_from_all_levels_of_short_flights(self):
        for many in range(1, 4):
            for levels in all_levels(many):
                for boats in range(6):
                    for order in all_orders(boats):
                        self.check_plan(levels, order)

    def test_long_orders_from_many_levels(self):
        source = random.Random(10)
        for many in range(1, 9):
            for boats in range(3, 13):
                for step in range(5):
                    levels = [source.random() < 0.5 for chamber in range(many)]
                    self.check_plan(levels, [source.choice(("up", "down")) for boat in range(boats)])

    def test_one_side_alone_and_both_in_turns(self):
        for many in range(1, 9):
            for levels in ([False] * many, [True] * many, ([False, True] * 4)[:many], ([True, False] * 4)[:many]):
                for order in (["up"] * 12, ["down"] * 12, ["up", "down"] * 6, ["down", "up"] * 6):
                    self.check_plan(levels, order)

    def test_the_plan_of_an_empty_order(self):
        for many in range(1, 9):
            for levels in all_levels(many):
                self.check_plan(levels, [])

    def test_a_longer_order_is_not_refused(self):
        self.check_plan([False, True, False], ["up", "down", "down"] * 6)
        self.check_plan([True], ["up"] * 13)

    def test_a_list_of_another_length_is_refused(self):
        for many in (0, 9, 10, 16, 100, 5000):
            for level in (False, True):
                for order in ([], ["up"], ["down"], ["up", "down"] * 6):
                    with self.subTest(many=many, level=level, order=order):
                        self.raises_just(errors.BadFlight, plan, [level] * many, order)

    def test_what_is_handed_in_is_neither_changed_nor_kept(self):
        levels = [True, False, False]
        order = ["up", "down", "down"]
        deeds = plan(levels, order)
        told = list(deeds)
        self.assertEqual((levels, order), ([True, False, False], ["up", "down", "down"]))
        levels[0] = False
        levels.append(True)
        order.clear()
        self.assertEqual(deeds, told)
        self.assertEqual(plan([True, False, False], ["up", "down", "down"]), told)

    def test_a_plan_is_the_askers_own(self):
        for order in ([], ["up"], ["down", "up"]):
            deeds = plan([False, True], order)
            told = list(deeds)
            deeds.reverse()
            deeds.append(("let", 0))
            self.assertEqual(plan([False, True], order), told)


if __name__ == "__main__":
    unittest.main()
