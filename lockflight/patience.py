"""The orders that keep a patience: the least that one costs from a stand, and the best one from given levels."""

from lockflight.costs import boat_cost, levels_behind
from lockflight.flight import Flight


def rest(many, ups, downs, last, run, patience):
    return Rests(patience).rest_of(Stand(ups, downs, last, run), levels_behind(many, last))


def best(levels, ups, downs, patience):
    high = Flight(levels).levels()
    rests = Rests(patience)
    stand = Stand(ups, downs, None, 0)
    order = []
    while not stand.is_empty():
        side = rests.best_side(stand, high)
        order.append(side)
        stand = stand.behind(side)
        high = levels_behind(len(high), side)
    return order


# Ahead of the first boat there is no last side: None, with a run of 0.
class Stand:
    def __init__(self, ups, downs, last, run):
        self.left = {"up": ups, "down": downs}
        self.last = last
        self.run = run

    def is_empty(self):
        return self.left["up"] == 0 and self.left["down"] == 0

    def may_go(self, side, patience):
        if self.left[side] == 0:
            return False
        other = "down" if side == "up" else "up"
        return self.left[other] == 0 or side != self.last or self.run < patience

    def behind(self, side):
        left = dict(self.left)
        left[side] -= 1
        run = self.run + 1 if side == self.last else 1
        return Stand(left["up"], left["down"], side, run)

    def mark(self):
        return (self.left["up"], self.left["down"], self.last, self.run)


# Many orders come by the same stand: each rest is reckoned once and kept by the stand's mark. The levels are no part
# of the mark, since the last side tells them; only the stand ahead of the first boat has others, and none leads back
# to it.
class Rests:
    def __init__(self, patience):
        self.patience = patience
        self.known = {}

    def rest_of(self, stand, high):
        mark = stand.mark()
        if mark not in self.known:
            ways = [self.cost_by(side, stand, high) for side in self.next_sides(stand)]
            self.known[mark] = min(ways, default=0)
        return self.known[mark]

    def cost_by(self, side, stand, high):
        return boat_cost(high, side) + self.rest_of(stand.behind(side), levels_behind(len(high), side))

    # "down" stands first: of orders that cost the same, the one that has it earlier is the best.
    def next_sides(self, stand):
        return [side for side in ("down", "up") if stand.may_go(side, self.patience)]

    def best_side(self, stand, high):
        return min(self.next_sides(stand), key=lambda side: self.cost_by(side, stand, high))
