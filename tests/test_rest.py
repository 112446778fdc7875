"""Points 11 and 12: the rest of a stand, against all orders that keep the patience."""

import unittest

from flight_checks import FlightCase, all_orders, keeps, orders_of, told_cost
from lockflight.patience import rest

SIDES = ("up", "down")


def high_behind(many, last):
    return [last == "up"] * many


def least_of_all(many, ups, downs, last, run, patience):
    kept = [order for order in orders_of(ups, downs) if keeps(order, patience, last, run)]
    return min(told_cost(high_behind(many, last), order) for order in kept)


def steps(many, ups, downs, last, run, patience):
    """The stands that may come next, each with what the boat costs that leads there."""
    found = []
    for side in SIDES:
        waits = {"up": ups, "down": downs}
        count = run + 1 if side == last else 1
        other = "down" if side == "up" else "up"
        if waits[side] and (count <= patience or not waits[other]):
            waits[side] -= 1
            found.append((told_cost(high_behind(many, last), [side]), (waits["up"], waits["down"], side, count)))
    return found


def least_forward(many, ups, downs, last, run, patience):
    """The least from the first boat on: of each stand on the way what it costs at least to come there."""
    stands = {(ups, downs, last, run): 0}
    for boat in range(ups + downs):
        later = {}
        for stand, lockfuls in stands.items():
            for more, behind in steps(many, *stand, patience):
                later[behind] = min(lockfuls + more, later.get(behind, lockfuls + more))
        stands = later
    return min(stands.values())


class KeepsTest(unittest.TestCase):
    """The test's own telling of point 11, read off by hand."""

    def test_nobody_gone_ahead(self):
        self.assertTrue(keeps(["up", "up", "down"], 2))
        self.assertFalse(keeps(["up", "up", "down"], 1))
        self.assertTrue(keeps(["up", "down", "down", "down"], 1))
        self.assertFalse(keeps(["up", "down", "down", "up"], 1))
        self.assertTrue(keeps(["up", "down", "down", "up"], 2))
        self.assertTrue(keeps(["down"] * 8, 1))
        self.assertTrue(keeps([], 1))

    def test_those_gone_ahead_count(self):
        self.assertFalse(keeps(["up", "down"], 1, "up", 1))
        self.assertTrue(keeps(["up", "down"], 2, "up", 1))
        self.assertFalse(keeps(["up", "down"], 2, "up", 2))
        self.assertTrue(keeps(["down", "up"], 1, "up", 5))
        self.assertTrue(keeps(["up", "up"], 1, "up", 5))
        self.assertFalse(keeps(["down", "down", "up"], 2, "down", 1))
        self.assertTrue(keeps(["down", "down", "up"], 3, "down", 1))


class RestTest(FlightCase):
    def test_no_boats_cost_nothing(self):
        for many in range(1, 9):
            for last in SIDES:
                for run in (1, 5, 20):
                    for patience in (1, 5, 20):
                        self.assertEqual(rest(many, 0, 0, last, run, patience), 0)

    def test_boats_of_one_side_alone(self):
        for many in range(1, 9):
            for boats in range(1, 9):
                for run in (1, 3, 20):
                    for patience in (1, 3, 20):
                        self.assertEqual(rest(many, boats, 0, "up", run, patience), boats)
                        self.assertEqual(rest(many, boats, 0, "down", run, patience), many + boats - 1)
                        self.assertEqual(rest(many, 0, boats, "down", run, patience), boats)
                        self.assertEqual(rest(many, 0, boats, "up", run, patience), boats - 1)

    def test_a_run_below_at_and_beyond_the_patience(self):
        # Two up and one down, last up, five chambers: up up down costs 2, up down up 6, down up up 6.
        self.assertEqual(rest(5, 2, 1, "up", 1, 4), 2)
        self.assertEqual(rest(5, 2, 1, "up", 1, 3), 2)
        self.assertEqual(rest(5, 2, 1, "up", 1, 2), 6)
        self.assertEqual(rest(5, 2, 1, "up", 2, 3), 6)
        self.assertEqual(rest(5, 2, 1, "up", 3, 3), 6)
        self.assertEqual(rest(5, 2, 1, "up", 20, 3), 6)
        # One up and two down, last down: down down up costs 7, up down down 6.
        self.assertEqual(rest(5, 1, 2, "down", 1, 1), 6)
        self.assertEqual(rest(5, 1, 2, "down", 1, 20), 6)
        # One of each, last up: up down costs 1, down up 5.
        self.assertEqual(rest(5, 1, 1, "up", 1, 2), 1)
        self.assertEqual(rest(5, 1, 1, "up", 2, 2), 5)
        self.assertEqual(rest(5, 1, 1, "up", 3, 2), 5)
        self.assertEqual(rest(5, 1, 1, "up", 19, 20), 1)
        self.assertEqual(rest(5, 1, 1, "up", 20, 20), 5)
        self.assertEqual(rest(5, 1, 1, "up", 1, 1), 5)

    def test_patience_one_goes_in_turns(self):
        for many in range(1, 9):
            for boats in range(1, 9):
                self.assertEqual(rest(many, boats, boats, "up", 1, 1), boats * many)
                self.assertEqual(rest(many, boats, boats, "down", 1, 1), boats * many)

    def test_against_all_orders(self):
        for many in (1, 2, 3, 8):
            for ups in range(5):
                for downs in range(5):
                    for last in SIDES:
                        for run in (1, 2, 3, 20):
                            for patience in (1, 2, 3, 4, 20):
                                stand = (many, ups, downs, last, run, patience)
                                self.assertEqual(rest(*stand), least_of_all(*stand), stand)

    def test_eight_of_each_side_against_all_orders(self):
        for last, run, patience in (("up", 1, 3), ("down", 2, 2), ("up", 20, 20), ("down", 1, 20)):
            stand = (4, 8, 8, last, run, patience)
            self.assertEqual(rest(*stand), least_of_all(*stand), stand)

    def test_all_numbers_of_boats_from_the_first_one_on(self):
        seen = set()
        for ups in range(9):
            for downs in range(9):
                many = 1 + (3 * ups + downs) % 8
                seen.add(many)
                for last in SIDES:
                    for run, patience in ((1, 1), (1, 3), (2, 2), (4, 6), (7, 5), (1, 20), (15, 20), (20, 20)):
                        stand = (many, ups, downs, last, run, patience)
                        self.assertEqual(rest(*stand), least_forward(*stand), stand)
        self.assertEqual(seen, set(range(1, 9)))

    def test_larger_numbers_stand_by_stand(self):
        for many in (1, 4, 8):
            for ups in range(1, 9, 2):
                for downs in range(1, 9, 2):
                    for last in SIDES:
                        for run, patience in ((1, 2), (3, 4), (4, 4), (6, 4), (12, 20)):
                            stand = (many, ups, downs, last, run, patience)
                            ways = [more + rest(many, *behind, patience) for more, behind in steps(*stand)]
                            self.assertEqual(rest(*stand), min(ways), stand)

    def test_no_less_patience_costs_no_more(self):
        for last in SIDES:
            for run in (1, 4):
                told = [rest(6, 8, 8, last, run, patience) for patience in range(1, 21)]
                self.assertEqual(told, sorted(told, reverse=True))
                self.assertGreater(told[0], told[-1])

    def test_somewhat_beyond_the_bounds_nothing_is_refused(self):
        for stand in (
            (9, 3, 3, "up", 1, 2),
            (12, 2, 4, "down", 3, 3),
            (3, 9, 2, "up", 1, 2),
            (3, 2, 10, "down", 21, 22),
            (3, 4, 4, "up", 25, 24),
        ):
            self.assertEqual(rest(*stand), least_of_all(*stand), stand)

    def test_a_rest_is_a_whole_number(self):
        for stand in ((3, 0, 0, "up", 1, 1), (3, 2, 0, "down", 1, 1), (3, 2, 2, "up", 1, 2)):
            self.assertIs(type(rest(*stand)), int)

    def test_all_orders_are_gone_through(self):
        for boats in range(7):
            told = [order for ups in range(boats + 1) for order in orders_of(ups, boats - ups)]
            self.assertEqual(sorted(told), sorted(all_orders(boats)))


if __name__ == "__main__":
    unittest.main()
