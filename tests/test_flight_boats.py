"""Points 4 to 7: level gates, boats that come, sail and are asked after."""

import unittest

from flight_checks import FAR, FlightCase, all_levels, picture
from lockflight import errors
from lockflight.flight import Flight


def flight_with(levels, sides):
    flight = Flight(levels)
    for side in sides:
        flight.come(side)
    return flight


def do_all(flight, deeds):
    return [getattr(flight, deed)(number) for deed, number in deeds]


class LevelGateTest(FlightCase):
    def test_gate_zero_is_level_where_chamber_one_is_low(self):
        for many in range(1, 9):
            for levels in all_levels(many):
                flight = flight_with(levels, ["up"])
                if levels[0]:
                    self.refused(errors.Shut, flight, "sail", 0)
                else:
                    self.assertEqual(flight.sail(0), 1)

    def test_the_highest_gate_is_level_where_the_highest_chamber_is_high(self):
        for many in range(1, 9):
            for levels in all_levels(many):
                flight = flight_with(levels, ["down"])
                if levels[-1]:
                    self.assertEqual(flight.sail(0), many)
                else:
                    self.refused(errors.Shut, flight, "sail", 0)

    def test_a_gate_between_for_a_boat_up(self):
        flight = flight_with([False, False], ["up"])
        flight.sail(0)
        self.refused(errors.Shut, flight, "sail", 0)
        flight.let(2)
        self.refused(errors.Shut, flight, "sail", 0)
        flight.let(1)
        flight.let(2)
        self.assertEqual(flight.levels(), [True, True])
        self.refused(errors.Shut, flight, "sail", 0)
        flight.let(0)
        flight.let(1)
        self.assertEqual(flight.levels(), [True, False])
        self.assertEqual(flight.sail(0), 2)

    def test_a_gate_between_for_a_boat_down(self):
        flight = flight_with([True, True], ["down"])
        flight.sail(0)
        self.refused(errors.Shut, flight, "sail", 0)
        flight.let(0)
        self.refused(errors.Shut, flight, "sail", 0)
        flight.let(1)
        flight.let(0)
        self.assertEqual(flight.levels(), [False, False])
        self.refused(errors.Shut, flight, "sail", 0)
        flight.let(2)
        flight.let(1)
        self.assertEqual(flight.levels(), [True, False])
        self.assertEqual(flight.sail(0), 1)

    def test_the_way_out_above(self):
        flight = flight_with([False, False], ["up"])
        do_all(flight, [("sail", 0), ("let", 2), ("let", 1), ("sail", 0)])
        self.refused(errors.Shut, flight, "sail", 0)
        flight.let(2)
        self.assertEqual(flight.sail(0), 3)

    def test_the_way_out_below(self):
        flight = flight_with([True, True], ["down"])
        do_all(flight, [("sail", 0), ("let", 0), ("let", 1), ("sail", 0)])
        self.refused(errors.Shut, flight, "sail", 0)
        flight.let(0)
        self.assertEqual(flight.sail(0), 0)

    def test_far_chambers_do_not_count(self):
        for lower in (False, True):
            flight = flight_with([lower, False, True], ["down"])
            flight.sail(0)
            flight.let(2)
            self.assertEqual(flight.sail(0), 2)


class ComingTest(FlightCase):
    def test_numbers_go_over_both_sides_together(self):
        flight = Flight([False])
        sides = ["down", "up", "up", "down", "up"]
        self.assertEqual([flight.come(side) for side in sides], [0, 1, 2, 3, 4])
        self.assertEqual(flight.waiting("up"), [1, 2, 4])
        self.assertEqual(flight.waiting("down"), [0, 3])

    def test_coming_moves_nothing_else(self):
        flight = Flight([False, True])
        flight.come("up")
        flight.come("down")
        self.assertEqual((flight.levels(), flight.boats()), ([False, True], [None, None]))
        self.assertEqual((flight.through(), flight.drawn(), flight.out()), ([], 0, 0))

    def test_twenty_boats(self):
        flight = Flight([True] * 8)
        sides = ["up" if boat % 3 else "down" for boat in range(20)]
        self.assertEqual([flight.come(side) for side in sides], list(range(20)))
        self.assertEqual(flight.waiting("up"), [boat for boat in range(20) if boat % 3])
        self.assertEqual(flight.waiting("down"), [0, 3, 6, 9, 12, 15, 18])
        self.assertEqual([flight.side(boat) for boat in range(20)], sides)

    def test_twenty_boats_of_one_side(self):
        for side, other in (("up", "down"), ("down", "up")):
            flight = flight_with([True], [side] * 20)
            self.assertEqual(flight.waiting(side), list(range(20)))
            self.assertEqual(flight.waiting(other), [])

    def test_some_more_than_twenty_are_not_refused(self):
        flight = flight_with([True], ["up"] * 20)
        self.assertEqual([flight.come("down"), flight.come("up")], [20, 21])

    def test_no_number_comes_twice(self):
        flight = flight_with([False], ["up"])
        do_all(flight, [("sail", 0), ("let", 1)])
        self.assertEqual(flight.come("up"), 1)
        flight.sail(0)
        self.assertEqual(flight.come("down"), 2)
        self.assertEqual((flight.waiting("up"), flight.waiting("down")), ([1], [2]))


class WholeWayTest(FlightCase):
    def test_up_through_three_chambers(self):
        flight = flight_with([False, True, False], ["up"])
        self.assertEqual(flight.sail(0), 1)
        self.assertEqual((flight.boats(), flight.waiting("up")), ([0, None, None], []))
        self.assertEqual(flight.let(1), 0)
        self.assertEqual(flight.sail(0), 2)
        self.assertEqual(flight.boats(), [None, 0, None])
        self.assertEqual(flight.let(3), 1)
        self.assertEqual(flight.let(2), 1)
        self.assertEqual(flight.sail(0), 3)
        self.assertEqual((flight.boats(), flight.through()), ([None, None, 0], []))
        self.assertEqual(flight.let(3), 2)
        self.assertEqual(flight.sail(0), 4)
        self.assertEqual((flight.boats(), flight.through()), ([None] * 3, [0]))
        self.assertEqual((flight.levels(), flight.drawn(), flight.out()), ([True] * 3, 2, 0))

    def test_down_through_three_chambers(self):
        flight = flight_with([True, False, True], ["down"])
        self.assertEqual(flight.sail(0), 3)
        self.assertEqual((flight.boats(), flight.waiting("down")), ([None, None, 0], []))
        self.assertEqual(flight.let(2), 0)
        self.assertEqual(flight.sail(0), 2)
        self.assertEqual(flight.boats(), [None, 0, None])
        self.assertEqual(flight.let(0), 0)
        self.assertEqual(flight.let(1), 0)
        self.assertEqual(flight.sail(0), 1)
        self.assertEqual((flight.boats(), flight.through()), ([0, None, None], []))
        self.assertEqual(flight.let(0), 0)
        self.assertEqual(flight.sail(0), 0)
        self.assertEqual((flight.boats(), flight.through()), ([None] * 3, [0]))
        self.assertEqual((flight.levels(), flight.drawn(), flight.out()), ([False] * 3, 0, 2))

    def test_every_length_up_and_down(self):
        for many in range(1, 9):
            flight = flight_with([False] + [True] * (many - 1), ["down", "up"])
            for place in range(1, many + 1):
                self.assertEqual(flight.sail(1), place)
                self.assertEqual(flight.place(1), place)
                flight.let(place)
            self.assertEqual(flight.sail(1), many + 1)
            self.assertEqual((flight.levels(), flight.drawn()), ([True] * many, 1))
            for place in range(many, 0, -1):
                self.assertEqual(flight.sail(0), place)
                self.assertEqual(flight.place(0), place)
                for gate in range(place):
                    flight.let(gate)
            self.assertEqual(flight.sail(0), 0)
            self.assertEqual((flight.through(), flight.boats()), ([1, 0], [None] * many))

    def test_through_keeps_the_order_of_going_through(self):
        flight = flight_with([True], ["up", "up", "down", "down"])
        do_all(flight, [("sail", 2), ("let", 0), ("sail", 2), ("sail", 0), ("let", 1), ("sail", 0)])
        do_all(flight, [("sail", 3), ("let", 0), ("sail", 3), ("sail", 1), ("let", 1), ("sail", 1)])
        self.assertEqual(flight.through(), [2, 0, 3, 1])

    def test_sailing_moves_no_water(self):
        flight = flight_with([False, True], ["up", "down"])
        do_all(flight, [("sail", 0), ("sail", 1)])
        self.assertEqual((flight.levels(), flight.drawn(), flight.out()), ([False, True], 0, 0))
        self.assertEqual(flight.boats(), [0, 1])


class RefusedSailTest(FlightCase):
    def test_no_boat_that_never_came(self):
        for levels in ([False], [True], [False, True], [True] * 8):
            for sides in ([], ["up"], ["down"], ["up", "down", "up"]):
                flight = flight_with(levels, sides)
                for boat in (-1, -2, -len(sides), len(sides), len(sides) + 1, 20):
                    if boat not in range(len(sides)):
                        self.refused(errors.NoBoat, flight, "sail", boat)
                for boat in FAR:
                    self.refused(errors.NoBoat, flight, "sail", boat)
                    self.refused(errors.NoBoat, flight, "sail", -boat)

    def test_no_boat_that_is_through(self):
        flight = flight_with([False], ["up", "down"])
        do_all(flight, [("sail", 0), ("let", 1), ("sail", 0)])
        self.refused(errors.NoBoat, flight, "sail", 0)
        do_all(flight, [("sail", 1), ("let", 0), ("sail", 1)])
        self.refused(errors.NoBoat, flight, "sail", 0)
        self.refused(errors.NoBoat, flight, "sail", 1)

    def test_not_first(self):
        for level, side in ((False, "up"), (True, "down")):
            flight = flight_with([level], [side] * 3)
            self.refused(errors.NotFirst, flight, "sail", 1)
            self.refused(errors.NotFirst, flight, "sail", 2)
            self.assertEqual(flight.sail(0), 1)

    def test_the_other_row_does_not_count(self):
        flight = flight_with([False, True], ["down", "down", "up"])
        self.assertEqual(flight.sail(2), 1)
        flight = flight_with([False, True], ["up", "up", "down"])
        self.assertEqual(flight.sail(2), 2)

    def test_the_row_does_not_hinder_a_boat_in_a_chamber(self):
        flight = flight_with([False], ["up", "up"])
        do_all(flight, [("sail", 0), ("let", 1)])
        self.assertEqual(flight.sail(0), 2)
        flight = flight_with([True], ["down", "down"])
        do_all(flight, [("sail", 0), ("let", 0)])
        self.assertEqual(flight.sail(0), 0)

    def test_the_next_in_the_row_is_first_then(self):
        flight = flight_with([False, True], ["up", "up", "up"])
        do_all(flight, [("sail", 0), ("let", 1), ("sail", 0), ("let", 0)])
        self.refused(errors.NotFirst, flight, "sail", 2)
        self.assertEqual(flight.sail(1), 1)
        self.assertEqual(flight.waiting("up"), [2])

    def test_shut(self):
        self.refused(errors.Shut, flight_with([True], ["up"]), "sail", 0)
        self.refused(errors.Shut, flight_with([False], ["down"]), "sail", 0)

    def test_occupied_from_the_row(self):
        flight = flight_with([False], ["up", "up"])
        flight.sail(0)
        self.refused(errors.Occupied, flight, "sail", 1)
        flight = flight_with([True], ["down", "down"])
        flight.sail(0)
        self.refused(errors.Occupied, flight, "sail", 1)

    def test_occupied_by_a_boat_of_the_other_side(self):
        flight = flight_with([False], ["up", "down"])
        do_all(flight, [("sail", 0), ("let", 1)])
        self.refused(errors.Occupied, flight, "sail", 1)
        flight = flight_with([True], ["up", "down"])
        do_all(flight, [("sail", 1), ("let", 0)])
        self.refused(errors.Occupied, flight, "sail", 0)

    def test_occupied_between_chambers_from_both_sides(self):
        flight = flight_with([False, True], ["up", "down"])
        do_all(flight, [("sail", 0), ("sail", 1), ("let", 1)])
        self.refused(errors.Occupied, flight, "sail", 0)
        self.refused(errors.Occupied, flight, "sail", 1)

    def test_the_way_out_is_never_occupied(self):
        flight = flight_with([False, True], ["up", "down", "up", "down"])
        do_all(flight, [("sail", 0), ("let", 1), ("sail", 0), ("let", 2)])
        self.assertEqual(flight.sail(0), 3)
        do_all(flight, [("sail", 1), ("let", 0), ("let", 1), ("sail", 1), ("let", 0)])
        self.assertEqual(flight.sail(1), 0)

    def test_not_first_goes_ahead_of_shut(self):
        for level, side in ((True, "up"), (False, "down")):
            flight = flight_with([level], [side] * 2)
            self.refused(errors.Shut, flight, "sail", 0)
            self.refused(errors.NotFirst, flight, "sail", 1)

    def test_not_first_goes_ahead_of_occupied(self):
        for level, side in ((False, "up"), (True, "down")):
            flight = flight_with([level], [side] * 3)
            flight.sail(0)
            self.refused(errors.Occupied, flight, "sail", 1)
            self.refused(errors.NotFirst, flight, "sail", 2)

    def test_not_first_goes_ahead_of_both(self):
        for level, side, gate in ((False, "up", 1), (True, "down", 0)):
            flight = flight_with([level], [side] * 3)
            do_all(flight, [("sail", 0), ("let", gate)])
            self.refused(errors.NotFirst, flight, "sail", 2)

    def test_shut_goes_ahead_of_occupied(self):
        for level, side, gate in ((False, "up", 1), (True, "down", 0)):
            flight = flight_with([level], [side] * 2)
            do_all(flight, [("sail", 0), ("let", gate)])
            self.refused(errors.Shut, flight, "sail", 1)
        flight = flight_with([False, True], ["up", "down"])
        do_all(flight, [("sail", 0), ("sail", 1)])
        self.refused(errors.Shut, flight, "sail", 0)
        self.refused(errors.Shut, flight, "sail", 1)

    def test_a_refused_boat_can_sail_later(self):
        flight = flight_with([True], ["up"])
        self.refused(errors.Shut, flight, "sail", 0)
        flight.let(0)
        self.assertEqual(flight.sail(0), 1)


class AskingTest(FlightCase):
    def test_places_of_those_that_wait(self):
        for many in range(1, 9):
            flight = flight_with([False] * many, ["up", "down", "down", "up"])
            self.assertEqual([flight.place(boat) for boat in range(4)], [0, many + 1, many + 1, 0])

    def test_places_in_the_chambers(self):
        flight = flight_with([False, True, True], ["up", "down", "up"])
        do_all(flight, [("sail", 0), ("let", 1), ("sail", 0), ("sail", 1), ("let", 0), ("sail", 2)])
        self.assertEqual(flight.boats(), [2, 0, 1])
        self.assertEqual([flight.place(boat) for boat in (2, 0, 1)], [1, 2, 3])

    def test_no_place_of_one_that_never_came(self):
        flight = flight_with([False, True], ["up", "down"])
        for boat in (-1, -2, -3, 2, 3, 20) + FAR:
            self.refused(errors.NoBoat, flight, "place", boat)
        for boat in FAR:
            self.refused(errors.NoBoat, flight, "place", -boat)
        self.refused(errors.NoBoat, Flight([True]), "place", 0)

    def test_no_place_but_a_side_of_one_that_is_through(self):
        flight = flight_with([False], ["up", "down"])
        do_all(flight, [("sail", 0), ("let", 1), ("sail", 0), ("sail", 1), ("let", 0), ("sail", 1)])
        self.assertEqual(flight.through(), [0, 1])
        self.refused(errors.NoBoat, flight, "place", 0)
        self.refused(errors.NoBoat, flight, "place", 1)
        self.assertEqual((flight.side(0), flight.side(1)), ("up", "down"))

    def test_sides_stay_on_the_way(self):
        flight = flight_with([False], ["up", "down"])
        self.assertEqual((flight.side(0), flight.side(1)), ("up", "down"))
        flight.sail(0)
        self.assertEqual((flight.side(0), flight.side(1)), ("up", "down"))

    def test_no_side_of_one_that_never_came(self):
        flight = flight_with([False, True], ["up", "down"])
        for boat in (-1, -2, -3, 2, 3, 20) + FAR:
            self.refused(errors.NoBoat, flight, "side", boat)
        for boat in FAR:
            self.refused(errors.NoBoat, flight, "side", -boat)
        self.refused(errors.NoBoat, Flight([True]), "side", 0)

    def test_asking_changes_nothing(self):
        flight = flight_with([False, True], ["up", "down", "up"])
        flight.sail(0)
        self.assertEqual(picture(flight), picture(flight))


if __name__ == "__main__":
    unittest.main()
