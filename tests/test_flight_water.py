"""Points 1 to 3: a flight as it is made, what is handed in and told, and water let down."""

import unittest

from flight_checks import FAR, FlightCase, all_levels, picture
from lockflight import errors
from lockflight.flight import Flight
from test_errors import NAMES


class MakingTest(FlightCase):
    def test_every_flight_of_one_to_eight_chambers_begins_as_it_was_told(self):
        for many in range(1, 9):
            for levels in all_levels(many):
                flight = Flight(list(levels))
                self.assertEqual(flight.levels(), levels)
                self.assertEqual(flight.boats(), [None] * many)
                self.assertEqual(flight.waiting("up"), [])
                self.assertEqual(flight.waiting("down"), [])
                self.assertEqual(flight.through(), [])
                self.assertEqual((flight.drawn(), flight.out()), (0, 0))

    def test_another_length_is_refused(self):
        for many in (0, 9, 10, 16, 100, 5000):
            for level in (False, True):
                with self.subTest(many=many, level=level):
                    with self.assertRaises(ValueError) as caught:
                        Flight([level] * many)
                    self.assertIs(type(caught.exception), errors.BadFlight)
                    self.assertIsInstance(caught.exception, errors.LockError)
                    kinds = [name for name in NAMES if isinstance(caught.exception, getattr(errors, name))]
                    self.assertEqual(kinds, ["BadFlight"])

    def test_kinds(self):
        flight = Flight([True, False])
        flight.come("up")
        flight.let(0)
        flight.sail(0)
        self.assertIs(type(flight.levels()), list)
        self.assertEqual([type(level) for level in flight.levels()], [bool, bool])
        self.assertIs(type(flight.boats()), list)
        self.assertEqual([type(boat) for boat in flight.boats()], [int, type(None)])
        for told in (flight.waiting("up"), flight.waiting("down"), flight.through()):
            self.assertIs(type(told), list)
        for number in (flight.drawn(), flight.out(), flight.place(0), flight.let(2), flight.come("up")):
            self.assertIs(type(number), int)
        self.assertIs(type(flight.side(0)), str)


class OwnListsTest(FlightCase):
    def busy_flight(self):
        """Boat 0 is through, boat 2 in chamber 1, and on each side two wait."""
        flight = Flight([False, True])
        for side in ("up", "down", "up", "down", "up", "up"):
            flight.come(side)
        flight.sail(0)
        flight.let(1)
        flight.sail(0)
        flight.let(2)
        flight.sail(0)
        flight.let(0)
        flight.sail(2)
        return flight

    def told_lists(self, flight):
        return [flight.levels(), flight.boats(), flight.waiting("up"), flight.waiting("down"), flight.through()]

    def test_the_list_handed_in_may_be_changed_later(self):
        levels = [True, False, True]
        flight = Flight(levels)
        ahead = picture(flight)
        levels[0] = False
        self.assertEqual(picture(flight), ahead)
        levels.append(True)
        self.assertEqual(picture(flight), ahead)
        levels.clear()
        self.assertEqual(picture(flight), ahead)
        self.assertEqual(flight.let(0), 0)
        self.assertEqual(flight.levels(), [False, False, True])

    def test_the_list_handed_in_is_not_changed_by_deeds(self):
        levels = [True, False]
        flight = Flight(levels)
        flight.let(0)
        flight.let(2)
        flight.come("up")
        flight.sail(0)
        self.assertEqual(levels, [True, False])

    def test_each_list_told_may_be_changed_later(self):
        expected = [[False, True], [2, None], [4, 5], [1, 3], [0]]
        flight = self.busy_flight()
        self.assertEqual(self.told_lists(flight), expected)
        ahead = picture(flight)
        for told in self.told_lists(flight):
            told[0] = 7
            self.assertEqual(picture(flight), ahead)
            told.append(9)
            self.assertEqual(picture(flight), ahead)
            told.clear()
            self.assertEqual(picture(flight), ahead)

    def test_empty_lists_told_may_be_changed_later(self):
        flight = Flight([True])
        ahead = picture(flight)
        for told in self.told_lists(flight):
            told.append(9)
        self.assertEqual(picture(flight), ahead)
        self.assertEqual(flight.come("up"), 0)

    def test_no_two_lists_told_are_one(self):
        for flight in (Flight([True]), self.busy_flight()):
            lists = self.told_lists(flight) + self.told_lists(flight)
            self.assertEqual(len({id(told) for told in lists}), 10)

    def test_a_list_told_stays_as_it_was_told(self):
        flight = self.busy_flight()
        lists = self.told_lists(flight)
        copies = [list(told) for told in lists]
        flight.let(1)
        flight.sail(2)
        flight.let(0)
        flight.let(2)
        flight.sail(2)
        flight.sail(1)
        flight.come("up")
        flight.come("down")
        self.assertEqual(lists, copies)
        self.assertEqual(self.told_lists(flight), [[False, True], [None, 1], [4, 5, 6], [3, 7], [0, 2]])

    def test_two_flights_do_not_touch_one_another(self):
        levels = [False, True]
        still = Flight(levels)
        moved = Flight(levels)
        ahead = picture(still)
        moved.come("up")
        moved.come("down")
        moved.sail(0)
        moved.let(1)
        moved.sail(0)
        moved.let(2)
        moved.sail(0)
        self.assertEqual(moved.through(), [0])
        self.assertEqual(picture(still), ahead)
        self.assertEqual(still.come("down"), 0)
        self.assertEqual((moved.waiting("down"), moved.side(0)), ([1], "up"))


class LettingTest(FlightCase):
    def let_gives(self, flight, gate, levels, drawn, out):
        answer = flight.let(gate)
        self.assertEqual(answer, drawn)
        self.assertEqual((flight.levels(), flight.drawn(), flight.out()), (levels, drawn, out))

    def test_gate_zero_lets_out(self):
        self.let_gives(Flight([True, True, False]), 0, [False, True, False], 0, 1)

    def test_a_gate_between_draws_nothing_and_lets_nothing_out(self):
        self.let_gives(Flight([False, True, True]), 1, [True, False, True], 0, 0)
        self.let_gives(Flight([False, False, True]), 2, [False, True, False], 0, 0)

    def test_the_highest_gate_draws(self):
        self.let_gives(Flight([True, False, False]), 3, [True, False, True], 1, 0)

    def test_one_chamber(self):
        flight = Flight([True])
        self.refused(errors.NoFall, flight, "let", 1)
        self.let_gives(flight, 0, [False], 0, 1)
        self.refused(errors.NoFall, flight, "let", 0)
        self.let_gives(flight, 1, [True], 1, 1)
        self.let_gives(flight, 0, [False], 1, 2)
        self.let_gives(flight, 1, [True], 2, 2)

    def test_one_lockful_down_all_eight_chambers(self):
        flight = Flight([False] * 8)
        self.let_gives(flight, 8, [False] * 7 + [True], 1, 0)
        for gate in range(7, 0, -1):
            self.let_gives(flight, gate, [False] * (gate - 1) + [True] + [False] * (8 - gate), 1, 0)
        self.let_gives(flight, 0, [False] * 8, 1, 1)

    def test_no_gate(self):
        for many in range(1, 9):
            for levels in ([True] * many, [False] * many):
                flight = Flight(levels)
                flight.come("up")
                flight.come("down")
                for gate in (-1, -2, -many, -many - 1, many + 1, many + 2, 20):
                    self.refused(errors.NoGate, flight, "let", gate)
                for gate in FAR:
                    self.refused(errors.NoGate, flight, "let", gate)
                    self.refused(errors.NoGate, flight, "let", -gate)

    def test_no_fall(self):
        for levels, gate in (
            ([False, True, True], 0),
            ([False, False, False], 1),
            ([True, True, False], 1),
            ([True, False, False], 1),
            ([False, False, False], 2),
            ([False, True, True], 2),
            ([False, True, False], 2),
            ([False, False, True], 3),
        ):
            with self.subTest(levels=levels, gate=gate):
                self.refused(errors.NoFall, Flight(levels), "let", gate)

    def test_every_gate_of_every_flight(self):
        for many in range(1, 9):
            for levels in all_levels(many):
                for gate in range(many + 1):
                    self.check_gate(levels, gate)

    def check_gate(self, levels, gate):
        # The waters are put round the chambers: the lower one takes as a low one, the summit gives as a high one.
        waters = [False] + levels + [True]
        flight = Flight(levels)
        if waters[gate : gate + 2] != [False, True]:
            self.refused(errors.NoFall, flight, "let", gate)
            return
        waters[gate : gate + 2] = [True, False]
        drawn = 1 if gate == len(levels) else 0
        self.let_gives(flight, gate, waters[1:-1], drawn, 1 if gate == 0 else 0)

    def test_boats_stay_where_they_are_when_water_is_let_down(self):
        flight = Flight([False, True])
        flight.come("up")
        flight.come("down")
        flight.sail(0)
        flight.sail(1)
        self.let_gives(flight, 1, [True, False], 0, 0)
        self.let_gives(flight, 2, [True, True], 1, 0)
        self.let_gives(flight, 0, [False, True], 1, 1)
        self.assertEqual(flight.boats(), [0, 1])


if __name__ == "__main__":
    unittest.main()
