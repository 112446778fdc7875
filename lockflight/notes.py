"""Notes: a flight drawn as a text, and orders written as texts and read again."""

from lockflight.errors import BadText

MOST_LETTERS = 40
LETTERS = {"up": "u", "down": "d"}
SIDES = {"u": "up", "d": "down"}


def drawing(flight):
    chambers = list(zip(flight.levels(), flight.boats()))
    return "\n".join([chamber_line(high, boat) for high, boat in reversed(chambers)])


def chamber_line(high, boat):
    word = "high" if high else "low"
    return word if boat is None else f"{word} {boat}"


def shown_order(order):
    return "".join([LETTERS[side] for side in order])


def read_order(text):
    if len(text) > MOST_LETTERS:
        raise BadText("an order is written by at most 40 letters")
    order = []
    for letter in text:
        if letter not in SIDES:
            raise BadText("an order is written by the letters u and d alone")
        order.append(SIDES[letter])
    return order
