"""Point 9: whatever is done with a flight, no less is drawn than the order of those that are through costs."""

import copy
import random
import unittest

from flight_checks import FlightCase, all_levels, empty, fill, told_cost
from lockflight import errors
from lockflight.costs import cost
from lockflight.flight import Flight


def sides_through(flight):
    return [flight.side(boat) for boat in flight.through()]


def state(flight):
    rows = (tuple(flight.waiting("up")), tuple(flight.waiting("down")))
    return tuple(flight.levels()), tuple(flight.boats()), rows, tuple(flight.through())


def steps_from(flight):
    """The flight behind each deed that it doesn't refuse."""
    deeds = [("let", gate) for gate in range(len(flight.levels()) + 1)]
    deeds += [("sail", boat) for boat in flight.boats() if boat is not None]
    deeds += [("sail", row[0]) for row in (flight.waiting("up"), flight.waiting("down")) if row]
    behind = []
    for name, number in deeds:
        other = copy.deepcopy(flight)
        try:
            getattr(other, name)(number)
        except errors.LockError:
            continue
        behind.append(other)
    return behind


def least_drawn(flight):
    """All states that can be come to, each with the least that is drawn on any way to it."""
    found = {}
    ahead = [flight]
    while ahead:
        later = []
        while ahead:
            one = ahead.pop()
            if state(one) in found:
                continue
            found[state(one)] = one
            for other in steps_from(one):
                (ahead if other.drawn() == one.drawn() else later).append(other)
        ahead = later
    return list(found.values())


class AllRunsTest(FlightCase):
    """All that can be done with a short flight and few boats."""

    def check_all(self, levels, ups, downs):
        flight = Flight(levels)
        for side in ["up"] * ups + ["down"] * downs:
            flight.come(side)
        least = {}
        for one in least_drawn(flight):
            order = tuple(sides_through(one))
            self.assertGreaterEqual(one.drawn(), cost(levels, list(order)), (levels, state(one)))
            least[order] = min(one.drawn(), least.get(order, one.drawn()))
        for order, drawn in least.items():
            self.assertEqual(drawn, cost(levels, list(order)), (levels, order))
        return least

    def test_all_that_can_be_done(self):
        for many, boats in ((1, 5), (2, 4), (3, 3), (4, 2)):
            for levels in all_levels(many):
                for ups in range(boats + 1):
                    least = self.check_all(levels, ups, boats - ups)
                    self.assertEqual(max(len(order) for order in least), boats)


class LongRunsTest(FlightCase):
    def check(self, flight, levels):
        order = sides_through(flight)
        self.assertGreaterEqual(flight.drawn(), cost(levels, order), (levels, order))
        self.assertGreaterEqual(flight.drawn(), told_cost(levels, order), (levels, order))

    def attempt(self, flight, levels, name, number):
        try:
            getattr(flight, name)(number)
        except errors.LockError:
            pass
        self.check(flight, levels)

    def may_enter(self, flight, side):
        # Boats of both sides in the chambers would stand face to face for good.
        return all(boat is None or flight.side(boat) == side for boat in flight.boats())

    def sail_some(self, source, flight, levels):
        boats = [boat for boat in flight.boats() if boat is not None]
        for side in ("up", "down"):
            if flight.waiting(side) and self.may_enter(flight, side):
                boats.append(flight.waiting(side)[0])
        if boats:
            self.attempt(flight, levels, "sail", source.choice(boats))

    def let_some(self, source, flight, levels, thrift):
        gate = source.randrange(len(levels) + 1)
        # The thriftier a run, the rarer it draws where a chamber could give.
        if gate == len(levels) and any(flight.levels()) and source.random() < thrift:
            return
        self.attempt(flight, levels, "let", gate)

    def random_run(self, seed, many, thrift):
        source = random.Random(seed)
        levels = [source.random() < 0.5 for chamber in range(many)]
        flight = Flight(levels)
        came = 0
        for step in range(1200):
            if came < 20 and source.random() < 0.05:
                flight.come(source.choice(("up", "down")))
                came += 1
                self.check(flight, levels)
            self.let_some(source, flight, levels, thrift)
            self.sail_some(source, flight, levels)
        return sides_through(flight)

    def test_lavish_and_thrifty_runs(self):
        for thrift in (0.0, 0.5, 0.95):
            through = []
            for many in range(1, 9):
                for seed in range(2):
                    through += self.random_run(seed, many, thrift)
            self.assertGreater(through.count("up"), 20, thrift)
            self.assertGreater(through.count("down"), 20, thrift)

    def bring(self, source, flight, levels, boat, waste):
        many = len(levels)
        up = flight.side(boat) == "up"
        for gate in range(many + 1) if up else range(many, -1, -1):
            if source.random() < waste:
                self.attempt(flight, levels, "let", source.randrange(many + 1))
            # The chamber that the boat is in goes first: the water of the other one may be of use to it.
            for make, place in ((fill, gate), (empty, gate + 1)) if up else ((empty, gate + 1), (fill, gate)):
                make(flight, place)
                self.check(flight, levels)
            flight.sail(boat)
            self.check(flight, levels)

    def guided_run(self, seed, many, waste):
        source = random.Random(seed)
        levels = [source.random() < 0.5 for chamber in range(many)]
        flight = Flight(levels)
        for boat in range(12):
            flight.come(source.choice(("up", "down")))
        while flight.waiting("up") + flight.waiting("down"):
            rows = [row for row in (flight.waiting("up"), flight.waiting("down")) if row]
            self.bring(source, flight, levels, source.choice(rows)[0], waste)
        self.assertEqual(len(flight.through()), 12)
        return flight.drawn() - cost(levels, sides_through(flight))

    def test_boats_brought_through_one_by_one(self):
        more = []
        for waste in (0.0, 0.2, 0.9):
            for many in range(1, 9):
                more += [self.guided_run(seed, many, waste) for seed in range(4)]
        # Some runs draw just what their order costs: no more can be promised than point 9 does.
        self.assertEqual(min(more), 0)
        self.assertGreater(max(more), 0)


if __name__ == "__main__":
    unittest.main()
