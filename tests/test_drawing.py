"""Point 14: a flight drawn as a text."""

import random
import unittest

from flight_checks import FlightCase, all_levels, empty, fill, picture
from lockflight import errors
from lockflight.flight import Flight
from lockflight.notes import drawing


class DrawingTest(FlightCase):
    def test_told_drawings(self):
        self.assertEqual(drawing(Flight([True])), "high")
        self.assertEqual(drawing(Flight([False])), "low")
        self.assertEqual(drawing(Flight([True, False])), "low\nhigh")
        self.assertEqual(drawing(Flight([True, False, False])), "low\nlow\nhigh")
        self.assertEqual(
            drawing(Flight([True, True, False, False, True, False, True, False])),
            "low\nhigh\nlow\nhigh\nlow\nlow\nhigh\nhigh",
        )

    def test_all_levels_without_boats(self):
        for many in range(1, 9):
            for levels in all_levels(many):
                words = drawing(Flight(levels)).split("\n")
                self.assertEqual([word == "high" for word in words[::-1]], levels)
                self.assertEqual(set(words) - {"high", "low"}, set())

    def test_boats_of_one_figure(self):
        flight = Flight([False, False, True])
        self.assertEqual(flight.come("up"), 0)
        self.assertEqual(flight.come("down"), 1)
        self.assertEqual(drawing(flight), "high\nlow\nlow")
        flight.sail(0)
        self.assertEqual(drawing(flight), "high\nlow\nlow 0")
        flight.sail(1)
        self.assertEqual(drawing(flight), "high 1\nlow\nlow 0")
        flight.let(2)
        self.assertEqual(drawing(flight), "low 1\nhigh\nlow 0")
        flight.sail(1)
        flight.let(1)
        self.assertEqual(drawing(flight), "low\nlow 1\nhigh 0")

    def test_a_boat_that_is_through_is_not_drawn(self):
        flight = Flight([True])
        flight.come("down")
        flight.sail(0)
        self.assertEqual(drawing(flight), "high 0")
        flight.let(0)
        self.assertEqual(drawing(flight), "low 0")
        flight.sail(0)
        self.assertEqual(drawing(flight), "low")

    def test_boats_of_two_figures(self):
        flight = Flight([False, True])
        for side in ["down"] * 10 + ["up"] * 9 + ["down"]:
            flight.come(side)
        flight.sail(10)
        self.assertEqual(drawing(flight), "high\nlow 10")
        flight.sail(0)
        self.assertEqual(drawing(flight), "high 0\nlow 10")
        flight = Flight([False])
        for side in ["down"] * 19 + ["up"]:
            flight.come(side)
        flight.sail(19)
        self.assertEqual(drawing(flight), "low 19")

    def test_boats_of_one_and_of_two_figures_behind_one_another(self):
        flight = Flight([False] * 3)
        for side in ["down"] * 9 + ["up", "up"]:
            flight.come(side)
        flight.sail(9)
        for chamber in (1, 2):
            fill(flight, chamber)
            flight.sail(9)
        empty(flight, 1)
        flight.sail(10)
        self.assertEqual(drawing(flight), "low 9\nhigh\nlow 10")
        fill(flight, 3)
        self.assertEqual(drawing(flight), "high 9\nhigh\nlow 10")

    def check_drawing(self, flight):
        ahead = picture(flight)
        text = drawing(flight)
        self.assertEqual(picture(flight), ahead)
        self.assertEqual(drawing(flight), text)
        lines = text.split("\n")
        self.assertEqual(len(lines), len(flight.levels()))
        for chamber, line in enumerate(reversed(lines)):
            words = line.split(" ")
            self.assertEqual(words[0], {True: "high", False: "low"}[flight.levels()[chamber]])
            boat = flight.boats()[chamber]
            self.assertEqual(words[1:], [] if boat is None else [str(boat)])

    def run_deeds(self, source, flight, side):
        drawn_boats = set()
        for step in range(1000):
            boats = [boat for boat in flight.boats() if boat is not None] + flight.waiting(side)[:1]
            gates = range(len(flight.levels()) + 1)
            deeds = [("let", gate) for gate in gates] + [("sail", boat) for boat in boats]
            name, number = source.choice(deeds)
            try:
                getattr(flight, name)(number)
            except errors.LockError:
                continue
            self.check_drawing(flight)
            drawn_boats.update(flight.boats())
        return drawn_boats - {None}

    def test_runs_and_the_flight_stays_as_it_is(self):
        drawn_boats = set()
        for many in range(1, 9):
            for side in ("up", "down"):
                source = random.Random(many)
                flight = Flight([source.random() < 0.5 for chamber in range(many)])
                for boat in range(20):
                    flight.come(side)
                drawn_boats |= self.run_deeds(source, flight, side)
        self.assertEqual(drawn_boats, set(range(20)))


if __name__ == "__main__":
    unittest.main()
