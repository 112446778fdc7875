"""The water that an order of boats costs, and a plan of deeds that draws just so much."""

from lockflight.flight import Flight


def cost(levels, order):
    high = Flight(levels).levels()
    lockfuls = 0
    for side in order:
        lockfuls += boat_cost(high, side)
        high = levels_behind(len(high), side)
    return lockfuls


def boat_cost(high, side):
    if side == "up":
        return 1 + high[1:].count(False)
    return 0 if high[-1] else 1


def levels_behind(many, side):
    return [side == "up"] * many


def plan(levels, order):
    rehearsal = Rehearsal(levels)
    for side in order:
        rehearsal.flight.come(side)
    for boat, side in enumerate(order):
        if side == "up":
            rehearsal.bring_up(boat)
        else:
            rehearsal.bring_down(boat)
    return rehearsal.deeds


# A plan is found by doing it with a flight of its own: what that one doesn't refuse, no flight of these levels does.
class Rehearsal:
    def __init__(self, levels):
        self.flight = Flight(levels)
        self.deeds = []

    def bring_up(self, boat):
        self.make_low(1)
        self.sail(boat)
        for chamber in range(1, self.highest() + 1):
            self.make_high(chamber)
            self.sail(boat)

    def bring_down(self, boat):
        self.make_high(self.highest())
        self.sail(boat)
        for chamber in range(self.highest(), 0, -1):
            self.make_low(chamber)
            self.sail(boat)

    # Water from the nearest chamber above that is high comes first: only where there is none, the summit gives.
    def make_high(self, chamber):
        if chamber <= self.highest() and not self.is_high(chamber):
            self.make_high(chamber + 1)
            self.let(chamber)

    # The chamber below takes the water, so it must be low first, and so on down to the lower water.
    def make_low(self, chamber):
        if chamber > 0 and self.is_high(chamber):
            self.make_low(chamber - 1)
            self.let(chamber - 1)

    def highest(self):
        return len(self.flight.levels())

    def is_high(self, chamber):
        return self.flight.levels()[chamber - 1]

    def let(self, gate):
        self.flight.let(gate)
        self.deeds.append(("let", gate))

    def sail(self, boat):
        self.flight.sail(boat)
        self.deeds.append(("sail", boat))
