"""Point 13: the best order from given levels, against all orders that keep the patience."""

import unittest

from flight_checks import FlightCase, all_levels, keeps, orders_of, told_cost
from lockflight import errors
from lockflight.costs import cost
from lockflight.patience import best, rest


def first_of(levels, kept):
    # "down" lies ahead of "up" among texts too, so lists of sides are in the order that is asked for.
    return min(kept, key=lambda order: (told_cost(levels, order), order))


def orders_kept(ups, downs, patience):
    return [order for order in orders_of(ups, downs) if keeps(order, patience)]


class BestTest(FlightCase):
    def test_told_orders(self):
        # One chamber, low: both orders cost 1 and 2; high: 1 and 1, where "down" goes first.
        self.assertEqual(best([False], 1, 1, 1), ["up", "down"])
        self.assertEqual(best([True], 1, 1, 1), ["down", "up"])
        self.assertEqual(best([True], 1, 1, 20), ["down", "up"])
        # Two chambers: chamber 1 low and chamber 2 high, up down costs 1, down up 2.
        self.assertEqual(best([False, True], 1, 1, 1), ["up", "down"])
        # All high, two of each and time enough: all up ahead of all down.
        self.assertEqual(best([True] * 3, 2, 2, 2), ["up", "up", "down", "down"])
        self.assertEqual(best([True] * 3, 2, 2, 20), ["up", "up", "down", "down"])
        self.assertEqual(best([True] * 3, 2, 2, 1), ["up", "down", "up", "down"])

    def test_of_several_that_cost_the_same_down_goes_first(self):
        levels = [True]
        kept = orders_kept(2, 2, 2)
        least = min(told_cost(levels, order) for order in kept)
        several = [order for order in kept if told_cost(levels, order) == least]
        self.assertGreater(len(several), 1)
        self.assertEqual(best(levels, 2, 2, 2), sorted(several)[0])
        self.assertEqual(best(levels, 2, 2, 2), ["down", "up", "down", "up"])

    def test_no_boats(self):
        for many in range(1, 9):
            for levels in all_levels(many):
                self.assertEqual(best(levels, 0, 0, 1), [])
        self.assertEqual(best([True, False], 0, 0, 20), [])

    def test_boats_of_one_side_alone(self):
        for many in range(1, 9):
            for levels in ([False] * many, [True] * many):
                for boats in range(1, 9):
                    for patience in (1, 2, 20):
                        self.assertEqual(best(levels, boats, 0, patience), ["up"] * boats)
                        self.assertEqual(best(levels, 0, boats, patience), ["down"] * boats)

    def test_against_all_orders(self):
        for ups in range(5):
            for downs in range(5):
                for patience in (1, 2, 3, 4, 5, 20):
                    kept = orders_kept(ups, downs, patience)
                    for many in (1, 2, 3):
                        for levels in all_levels(many):
                            told = best(levels, ups, downs, patience)
                            self.assertEqual(told, first_of(levels, kept), (levels, ups, downs, patience))

    def test_long_flights_against_all_orders(self):
        for patience in (1, 2, 20):
            kept = orders_kept(2, 2, patience)
            for many in (5, 8):
                for levels in all_levels(many):
                    self.assertEqual(best(levels, 2, 2, patience), first_of(levels, kept), (levels, patience))

    def test_eight_of_each_side_against_all_orders(self):
        for patience in list(range(1, 9)) + [20]:
            kept = orders_kept(8, 8, patience)
            for levels in ([True, False, True], [False] * 8, [True]):
                self.assertEqual(best(levels, 8, 8, patience), first_of(levels, kept), (levels, patience))

    def test_every_patience_is_kept_and_costs_the_least_of_both_first_sides(self):
        for many in range(1, 9):
            for levels in ([False] * many, [True] * many, ([False, True] * 4)[:many]):
                for ups, downs in ((8, 8), (8, 3), (2, 7)):
                    for patience in range(1, 21):
                        order = best(levels, ups, downs, patience)
                        self.assertEqual((order.count("up"), order.count("down")), (ups, downs))
                        self.assertTrue(keeps(order, patience), (levels, order, patience))
                        up_first = cost(levels, ["up"]) + rest(many, ups - 1, downs, "up", 1, patience)
                        down_first = cost(levels, ["down"]) + rest(many, ups, downs - 1, "down", 1, patience)
                        self.assertEqual(cost(levels, order), min(up_first, down_first))

    def test_somewhat_beyond_the_bounds_nothing_is_refused(self):
        self.assertEqual(best([True, False], 9, 2, 3), first_of([True, False], orders_kept(9, 2, 3)))
        self.assertEqual(best([False], 2, 10, 22), first_of([False], orders_kept(2, 10, 22)))

    def test_a_list_of_another_length_is_refused(self):
        for many in (0, 9, 10, 16, 100, 5000):
            for level in (False, True):
                for ups, downs in ((0, 0), (1, 0), (0, 1), (8, 8)):
                    with self.subTest(many=many, level=level, ups=ups, downs=downs):
                        self.raises_just(errors.BadFlight, best, [level] * many, ups, downs, 2)

    def test_what_is_handed_in_is_neither_changed_nor_kept(self):
        levels = [True, False, True]
        order = best(levels, 2, 3, 2)
        told = list(order)
        self.assertEqual(levels, [True, False, True])
        levels[2] = False
        levels.append(False)
        self.assertEqual(order, told)
        self.assertEqual(best([True, False, True], 2, 3, 2), told)

    def test_an_order_is_the_askers_own(self):
        for ups, downs in ((0, 0), (1, 0), (2, 3)):
            order = best([True, False, True], ups, downs, 2)
            told = list(order)
            self.assertIs(type(order), list)
            order.append("up")
            order[0] = "down"
            self.assertEqual(best([True, False, True], ups, downs, 2), told)


if __name__ == "__main__":
    unittest.main()
