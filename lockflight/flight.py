"""A flight of chambers with gates between, the water let down through it, and the boats on their way.

The refusals don't name the number that was handed in: it may be too long to be written as a text.
"""

from lockflight.errors import BadFlight, NoBoat, NoFall, NoGate, NotFirst, Occupied, Shut

MOST_CHAMBERS = 8


class Flight:
    def __init__(self, levels):
        if len(levels) < 1 or len(levels) > MOST_CHAMBERS:
            raise BadFlight("a flight has 1 to 8 chambers")
        self.high = list(levels)
        self.inside = [None] * len(levels)
        self.rows = {"up": [], "down": []}
        self.sides = []
        self.gone = []
        self.lockfuls_drawn = 0
        self.lockfuls_out = 0

    def levels(self):
        return list(self.high)

    def boats(self):
        return list(self.inside)

    def waiting(self, side):
        return list(self.rows[side])

    def through(self):
        return list(self.gone)

    def drawn(self):
        return self.lockfuls_drawn

    def out(self):
        return self.lockfuls_out

    def side(self, boat):
        # A list would take a negative number as a place from its end.
        if boat < 0 or boat >= len(self.sides):
            raise NoBoat("no boat of this number came")
        return self.sides[boat]

    def place(self, boat):
        if boat in self.rows["up"]:
            return 0
        if boat in self.rows["down"]:
            return self.summit()
        if boat in self.inside:
            return self.inside.index(boat) + 1
        raise NoBoat("no boat of this number waits or is in a chamber")

    def come(self, side):
        boat = len(self.sides)
        self.sides.append(side)
        self.rows[side].append(boat)
        return boat

    def let(self, gate):
        if gate < 0 or gate >= self.summit():
            raise NoGate("the flight has no gate of this number")
        if not self.can_give(gate + 1):
            raise NoFall("the chamber above the gate is not high")
        if not self.can_take(gate):
            raise NoFall("the chamber below the gate is not low")
        self.give(gate + 1)
        self.take(gate)
        return self.lockfuls_drawn

    def sail(self, boat):
        here = self.place(boat)
        side = self.side(boat)
        if boat in self.rows[side] and self.rows[side][0] != boat:
            raise NotFirst("another boat stands ahead in the row")
        there = here + 1 if side == "up" else here - 1
        if not self.is_level(min(here, there)):
            raise Shut("the gate between is not level")
        if self.is_chamber(there) and self.inside[there - 1] is not None:
            raise Occupied("a boat is in the chamber ahead")
        self.leave(here, side)
        self.enter(there, boat)
        return there

    # The waters at both ends have places too, 0 and this one, so that every gate lies between two places.
    def summit(self):
        return len(self.high) + 1

    def is_chamber(self, place):
        return place > 0 and place < self.summit()

    def can_give(self, place):
        return self.high[place - 1] if self.is_chamber(place) else True

    def can_take(self, place):
        return not self.high[place - 1] if self.is_chamber(place) else True

    def is_level(self, gate):
        # The lower water counts as high and the summit as low: then one rule holds for every gate.
        return self.can_give(gate) and self.can_take(gate + 1)

    def give(self, place):
        if self.is_chamber(place):
            self.high[place - 1] = False
        else:
            self.lockfuls_drawn += 1

    def take(self, place):
        if self.is_chamber(place):
            self.high[place - 1] = True
        else:
            self.lockfuls_out += 1

    def leave(self, place, side):
        if self.is_chamber(place):
            self.inside[place - 1] = None
        else:
            self.rows[side].pop(0)

    def enter(self, place, boat):
        if self.is_chamber(place):
            self.inside[place - 1] = boat
        else:
            self.gone.append(boat)
