"""Longer runs of deeds: water and boats are neither lost nor made, and every step is as a second telling has it."""

import random
import unittest

from flight_checks import FlightCase, empty, fill
from lockflight import errors
from lockflight.flight import Flight


class Telling:
    """A flight told anew: each boat by its place alone, the waters as levels round the chambers."""

    def __init__(self, levels):
        self.many = len(levels)
        self.levels = dict(enumerate(levels, start=1))
        self.places = {}
        self.sides = {}
        self.through = []
        self.counts = {0: 0, self.many + 1: 0}

    def come(self, side):
        boat = len(self.sides)
        self.sides[boat] = side
        self.places[boat] = 0 if side == "up" else self.many + 1
        return boat

    def let(self, gate):
        if not 0 <= gate <= self.many:
            return errors.NoGate
        if not self.levels.get(gate + 1, True) or self.levels.get(gate, False):
            return errors.NoFall
        for place, level in ((gate + 1, False), (gate, True)):
            if place in self.levels:
                self.levels[place] = level
            else:
                self.counts[place] += 1
        return self.counts[self.many + 1]

    def waiting(self, side):
        start = 0 if side == "up" else self.many + 1
        return [boat for boat in sorted(self.places) if self.sides[boat] == side and self.places[boat] == start]

    def sail(self, boat):
        if boat not in self.places:
            return errors.NoBoat
        side = self.sides[boat]
        if boat in self.waiting(side)[1:]:
            return errors.NotFirst
        ahead = self.places[boat] + (1 if side == "up" else -1)
        lower = min(ahead, self.places[boat])
        if not self.levels.get(lower, True) or self.levels.get(lower + 1, False):
            return errors.Shut
        if ahead in self.levels and ahead in self.places.values():
            return errors.Occupied
        self.places[boat] = ahead
        if ahead not in self.levels:
            del self.places[boat]
            self.through.append(boat)
        return ahead

    def boats(self):
        inside = {place: boat for boat, place in self.places.items() if place in self.levels}
        return [inside.get(place) for place in range(1, self.many + 1)]


def outcome(flight, deed, value):
    try:
        return getattr(flight, deed)(value)
    except errors.LockError as error:
        return type(error)


class RunsTest(FlightCase):
    def check_state(self, flight, telling):
        self.assertEqual(flight.levels(), [telling.levels[place] for place in range(1, telling.many + 1)])
        self.assertEqual(flight.boats(), telling.boats())
        self.assertEqual(flight.waiting("up"), telling.waiting("up"))
        self.assertEqual(flight.waiting("down"), telling.waiting("down"))
        self.assertEqual(flight.through(), telling.through)
        self.assertEqual(flight.out(), telling.counts[0])
        self.assertEqual(flight.drawn(), telling.counts[telling.many + 1])

    def check_kept(self, flight, levels, sides):
        more = sum(flight.levels()) - sum(levels)
        self.assertEqual(flight.drawn() - flight.out(), more)
        inside = [boat for boat in flight.boats() if boat is not None]
        everywhere = flight.waiting("up") + flight.waiting("down") + inside + flight.through()
        self.assertEqual(sorted(everywhere), list(range(len(sides))))
        self.assertEqual([flight.side(boat) for boat in range(len(sides))], sides)
        for boat in range(len(sides)):
            self.check_place(flight, boat)

    def check_place(self, flight, boat):
        if boat in flight.through():
            self.refused(errors.NoBoat, flight, "place", boat)
        elif boat in flight.waiting(flight.side(boat)):
            self.assertEqual(flight.place(boat), 0 if flight.side(boat) == "up" else len(flight.levels()) + 1)
        else:
            self.assertEqual(flight.boats()[flight.place(boat) - 1], boat)

    def pick(self, source, telling, choice):
        kind = source.randrange(20)
        if kind == 0 and len(telling.sides) < 20:
            return "come", source.choice(choice)
        if kind < 10:
            return "let", source.randrange(-1, telling.many + 2)
        if kind < 13 or not telling.places:
            return "sail", source.randrange(-1, len(telling.sides) + 1)
        return "sail", source.choice(sorted(telling.places))

    def run_deeds(self, seed, many, steps, choice):
        source = random.Random(seed)
        levels = [source.random() < 0.5 for chamber in range(many)]
        flight = Flight(levels)
        telling = Telling(levels)
        sides = []
        seen = set()
        for step in range(steps):
            deed, value = self.pick(source, telling, choice)
            answer = outcome(flight, deed, value)
            self.assertEqual(answer, getattr(telling, deed)(value))
            seen.add(answer if isinstance(answer, type) else deed)
            if deed == "come":
                sides.append(value)
            self.check_state(flight, telling)
            if step % 10 == 0:
                self.check_kept(flight, levels, sides)
        self.check_kept(flight, levels, sides)
        return seen, len(flight.through())

    def test_runs_of_many_deeds(self):
        seen = set()
        through = 0
        # Boats of both sides soon stand face to face: the runs of one side alone get boats through.
        for choice in (["up"], ["down"], ["up", "down"]):
            for many in range(1, 9):
                for seed in range(3):
                    with self.subTest(choice=choice, many=many, seed=seed):
                        kinds, gone = self.run_deeds(seed, many, 400, choice)
                        seen |= kinds
                        through += gone
        refusals = {errors.NoGate, errors.NoFall, errors.NoBoat, errors.NotFirst, errors.Shut, errors.Occupied}
        self.assertEqual(seen, {"come", "let", "sail"} | refusals)
        self.assertGreater(through, 50)

    def test_twenty_boats_go_through_by_turns(self):
        flight = Flight([False] * 3)
        sides = ["up", "down"] * 10
        for side in sides:
            flight.come(side)
        for boat, side in enumerate(sides):
            for gate in range(4) if side == "up" else range(3, -1, -1):
                empty(flight, gate + 1)
                fill(flight, gate)
                self.assertEqual(flight.sail(boat), gate + 1 if side == "up" else gate)
                self.check_kept(flight, [False] * 3, sides)
        self.assertEqual(flight.through(), list(range(20)))


if __name__ == "__main__":
    unittest.main()
