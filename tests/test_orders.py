"""Point 15: orders written as texts, and read again."""

import random
import unittest

from flight_checks import FlightCase, all_orders
from lockflight import errors
from lockflight.notes import read_order, shown_order

# All signs that may stand in a text that is handed in.
SIGNS = ["\t", "\n"] + [chr(code) for code in range(ord(" "), ord("~") + 1) if chr(code) != "%"]
WRONG = [sign for sign in SIGNS if sign not in ("u", "d")]


class OrdersTest(FlightCase):
    def test_told_texts(self):
        for order, text in (
            ([], ""),
            (["up"], "u"),
            (["down"], "d"),
            (["up", "down"], "ud"),
            (["down", "up"], "du"),
            (["up", "up", "down", "up"], "uudu"),
            (["down"] * 40, "d" * 40),
            (["up", "down"] * 20, "ud" * 20),
        ):
            with self.subTest(text=text):
                self.assertEqual(shown_order(order), text)
                self.assertEqual(read_order(text), order)
                self.assertIs(type(shown_order(order)), str)
                self.assertIs(type(read_order(text)), list)

    def test_what_is_written_is_read_to_the_same_order(self):
        source = random.Random(15)
        orders = [order for boats in range(9) for order in all_orders(boats)]
        for boats in range(41):
            orders += [[source.choice(("up", "down")) for boat in range(boats)] for time in range(20)]
        for order in orders:
            text = shown_order(order)
            self.assertEqual(len(text), len(order))
            self.assertEqual(read_order(text), order)
            self.assertEqual(shown_order(read_order(text)), text)

    def test_a_longer_order_is_written(self):
        self.assertEqual(shown_order(["up"] * 41), "u" * 41)
        self.assertEqual(shown_order(["up", "down"] * 25), "ud" * 25)


class BadTextTest(FlightCase):
    def test_more_than_forty_letters(self):
        for many in list(range(41, 100)) + [1000]:
            for letters in ("u" * many, "d" * many, ("ud" * many)[:many]):
                self.raises_just(errors.BadText, read_order, letters)

    def test_any_other_sign_at_any_place(self):
        for sign in WRONG:
            for text in ("", "u", "d", "ud", "duu", "u" * 39, "ud" * 20):
                for place in sorted({0, len(text) // 2, len(text)}):
                    self.raises_just(errors.BadText, read_order, text[:place] + sign + text[place:])

    def test_one_other_sign_in_forty(self):
        for place in range(40):
            for sign in (" ", "\n", "\t", "U", "D", "0", "-", "v"):
                self.raises_just(errors.BadText, read_order, "u" * place + sign + "d" * (39 - place))

    def test_texts_that_look_like_orders(self):
        words = ["up", "down", "U", "D", "UD", "u,d", "[]", "n"]
        blanks = [" ", "\n", "\t", "u d", " u", "u ", "u\n", "\nu", "u\t", "uu\nd"]
        for text in words + blanks:
            self.raises_just(errors.BadText, read_order, text)

    def test_long_texts_of_other_signs(self):
        for sign in WRONG:
            self.raises_just(errors.BadText, read_order, sign * 99)


class OwnListsTest(FlightCase):
    def test_an_order_that_is_written_stays_and_is_not_kept(self):
        order = ["up", "down", "down"]
        text = shown_order(order)
        self.assertEqual(order, ["up", "down", "down"])
        order.append("up")
        order[0] = "down"
        self.assertEqual(text, "udd")
        self.assertEqual(shown_order(order), "dddu")
        self.assertEqual(shown_order(["up", "down", "down"]), "udd")

    def test_an_order_that_is_read_is_the_askers_own(self):
        for text in ("", "u", "udd"):
            order = read_order(text)
            told = list(order)
            order.append("up")
            order[0] = "down"
            self.assertEqual(read_order(text), told)


if __name__ == "__main__":
    unittest.main()
