"""[10], [22], [2], [3] Amounts."""

import itertools
import unittest

from things import BIG, NO_SHADES, NO_SPOTS

from stripelay.amounts import amount, how_many, in_round, nth
from stripelay.errors import NoCut, NoNumber, NoShade, NoSpot
from stripelay.rows import Row
from stripelay.rowtexts import read_row
from stripelay.stripes import stripes_of

ROWS = [Row(stripes_of(threads)) for many in range(1, 6) for threads in itertools.product("bw", repeat=many)]
ROWS += [read_row("a1 b2 c3 b1 run 3"), read_row("a1 abc2 ab3 fold -2"), read_row("r240"), read_row("b200 w40 run 17")]
PLAIN = read_row("b8 w2")


def counted(row, wanted, first, last):
    return sum(1 for spot in range(first, last + 1) if row.at(spot) in wanted)


class Amounts(unittest.TestCase):
    def test_spot_by_spot(self):
        for row in ROWS:
            for first in (-13, -5, -1, 0, 1, 4, 9):
                for last in range(first - 1, first + 15):
                    for shade in row.shades():
                        self.assertEqual(amount(row, shade, first, last), counted(row, (shade,), first, last))
                    self.assertEqual(how_many(row, first, last), last - first + 1)

    def test_far_spots(self):
        for row in ROWS:
            for first in (BIG - 20, -BIG, 10 ** 29 + 7, -10 ** 29 - 8):
                for shade in row.shades():
                    self.assertEqual(amount(row, shade, first, first + 20), counted(row, (shade,), first, first + 20))

    def test_from_big_to_big(self):
        self.assertEqual(amount(PLAIN, "b", -BIG, BIG), 2 * BIG // 10 * 8 + 1)
        self.assertEqual(amount(PLAIN, "w", -BIG, BIG), 2 * BIG // 10 * 2)
        self.assertEqual(amount(PLAIN.moved(-8), "w", -BIG, BIG), 2 * BIG // 10 * 2 + 1)
        self.assertEqual(how_many(PLAIN, -BIG, BIG), 2 * BIG + 1)
        self.assertEqual(how_many(PLAIN, -BIG, BIG, lambda shade: shade == "w"), 2 * BIG // 10 * 2)
        self.assertEqual(amount(PLAIN, "b", BIG, BIG), 1)
        self.assertEqual(amount(PLAIN, "b", -BIG, -BIG), 1)
        self.assertEqual(amount(PLAIN, "w", -BIG, -1), BIG // 10 * 2)

    def test_of_all_shades_together(self):
        for row in ROWS:
            for first, last in ((-BIG, BIG), (-7, 10 ** 29), (3, 3), (-2, -3)):
                shares = [amount(row, shade, first, last) for shade in row.shades()]
                self.assertEqual(sum(shares), last - first + 1)

    def test_no_thread(self):
        for first in (0, 5, -5, BIG, 1 - BIG):
            self.assertEqual(amount(PLAIN, "b", first, first - 1), 0)
            self.assertEqual(how_many(PLAIN, first, first - 1), 0)
            self.assertEqual(how_many(PLAIN, first, first - 1, lambda shade: True), 0)

    def test_a_round_where_last_is_not_told(self):
        for first in (0, 3, -3, BIG, BIG - 4, -BIG):
            self.assertEqual(amount(PLAIN, "b", first), 8)
            self.assertEqual(amount(PLAIN, "w", first, None), 2)
            self.assertEqual(how_many(PLAIN, first), 10)
            self.assertEqual(how_many(PLAIN, first, None, lambda shade: shade == "w"), 2)
        self.assertEqual((amount(PLAIN, "w"), how_many(PLAIN)), (2, 10))

    def test_from_nought_where_first_is_not_told(self):
        self.assertEqual((amount(PLAIN, "b", last=0), amount(PLAIN, "w", last=8), amount(PLAIN, "w", last=-1)), (1, 1, 0))
        self.assertEqual((how_many(PLAIN, last=0), how_many(PLAIN, last=8), how_many(PLAIN, last=-1)), (1, 9, 0))
        self.assertEqual(nth(PLAIN, "b", 1), 0)

    def test_a_shade_that_the_row_has_not(self):
        for shade in ("r", "bw", "bbb", "zzz"):
            self.assertEqual(amount(PLAIN, shade), 0)
            self.assertEqual(amount(PLAIN, shade, -BIG, BIG), 0)

    def test_by_names(self):
        self.assertEqual(amount(last=9, first=7, shade="w", row=PLAIN), 2)
        self.assertEqual(how_many(deed=lambda shade: shade == "w", last=8, first=7, row=PLAIN), 1)
        self.assertEqual(how_many(PLAIN, deed=lambda shade: shade == "b"), 8)


class Deeds(unittest.TestCase):
    def test_true_of_some_of_all_and_of_none(self):
        for row in ROWS:
            for many in range(len(row.shades()) + 1):
                for wanted in itertools.combinations(row.shades(), many):
                    told = how_many(row, -6, 8, lambda shade: shade in wanted)
                    self.assertEqual(told, counted(row, wanted, -6, 8))

    def test_asked_of_shades_of_the_row_alone(self):
        asked = []
        how_many(PLAIN, -BIG, BIG, lambda shade: asked.append(shade) is None)
        self.assertEqual(set(asked), {"b", "w"})
        self.assertLess(len(asked), 20)


class Refusals(unittest.TestCase):
    def test_no_shade(self):
        for thing in NO_SHADES:
            with self.assertRaises(NoShade) as caught:
                amount(PLAIN, thing)
            self.assertIs(caught.exception.shade, thing)

    def test_no_spot(self):
        for thing in NO_SPOTS:
            asked = [lambda: amount(PLAIN, "b", thing), lambda: how_many(PLAIN, thing), lambda: amount(PLAIN, "b", thing, True),
                     lambda: how_many(PLAIN, thing, "5"), lambda: nth(PLAIN, "b", 1, thing)]
            if thing is not None:
                asked += [lambda: amount(PLAIN, "b", 0, thing), lambda: how_many(PLAIN, 0, thing),
                          lambda: how_many(PLAIN, BIG, thing, lambda shade: True)]
            for deed in asked:
                with self.assertRaises(NoSpot) as caught:
                    deed()
                self.assertIs(caught.exception.spot, thing)

    def test_no_cut(self):
        for first, last in ((0, -2), (5, 3), (5, -5), (BIG, -BIG), (BIG, BIG - 2), (2 - BIG, -BIG)):
            for deed in (lambda: amount(PLAIN, "b", first, last), lambda: how_many(PLAIN, first, last),
                         lambda: amount(PLAIN, "r", first, last)):
                with self.assertRaises(NoCut) as caught:
                    deed()
                self.assertEqual((caught.exception.first, caught.exception.last), (first, last))

    def test_order(self):
        with self.assertRaises(NoShade):
            amount(PLAIN, "B", True, True)
        with self.assertRaises(NoSpot) as caught:
            amount(PLAIN, "b", BIG + 1, -BIG - 1)
        self.assertEqual(caught.exception.spot, BIG + 1)
        with self.assertRaises(NoSpot) as caught:
            amount(PLAIN, "b", BIG, -BIG - 1)
        self.assertEqual(caught.exception.spot, -BIG - 1)

    def test_the_least_spot_has_no_spot_ahead(self):
        with self.assertRaises(NoSpot):
            amount(PLAIN, "b", -BIG, -BIG - 1)


class Nth(unittest.TestCase):
    def test_spot_by_spot(self):
        for row in ROWS:
            for first in (-14, -3, -1, 0, 1, 2, 7):
                for shade in row.shades():
                    spots = [spot for spot in range(first, first + 500) if row.at(spot) == shade]
                    per_round = row.threads().count(shade)
                    for number in (1, 2, per_round, per_round + 1, 2 * per_round):
                        self.assertEqual(nth(row, shade, number, first), spots[number - 1])

    def test_as_amounts_count(self):
        for row in ROWS:
            for shade in row.shades():
                for number in (1, 7, 10 ** 12 + 3, 10 ** 27):
                    for first in (0, -BIG, 5, -10 ** 29):
                        spot = nth(row, shade, number, first)
                        self.assertEqual(row.at(spot), shade)
                        self.assertEqual(amount(row, shade, first, spot), number)

    def test_big(self):
        self.assertEqual(nth(PLAIN, "b", BIG), BIG // 8 * 10 - 3)
        self.assertEqual(nth(PLAIN, "w", BIG), BIG // 2 * 10 - 1)
        self.assertEqual(nth(PLAIN, "b", 1, BIG), BIG)
        self.assertEqual(nth(PLAIN, "w", 1, BIG), BIG + 8)
        self.assertEqual(nth(PLAIN, "w", 2, BIG), BIG + 9)
        self.assertEqual(nth(PLAIN, "w", 3, BIG), BIG + 18)
        self.assertEqual(nth(PLAIN, "w", BIG, BIG), BIG + BIG // 2 * 10 - 1)
        self.assertEqual(nth(PLAIN, "w", 1, -BIG), 8 - BIG)
        self.assertEqual(nth(read_row("b1"), "b", BIG, -BIG), -1)

    def test_by_names(self):
        self.assertEqual(nth(first=1, number=3, shade="w", row=PLAIN), 18)

    def test_no_shade(self):
        for thing in NO_SHADES + ("r", "bw", "zzz"):
            with self.assertRaises(NoShade) as caught:
                nth(PLAIN, thing, 1)
            self.assertIs(caught.exception.shade, thing)

    def test_no_number(self):
        for thing in NO_SPOTS + (0, -1, -BIG):
            with self.assertRaises(NoNumber):
                nth(PLAIN, "b", thing)

    def test_order(self):
        with self.assertRaises(NoShade):
            nth(PLAIN, "r", 0, None)
        with self.assertRaises(NoNumber):
            nth(PLAIN, "b", 0, None)
        with self.assertRaises(NoSpot):
            nth(PLAIN, "b", 1, None)


class InRound(unittest.TestCase):
    def test_each_shade_of_the_row(self):
        self.assertEqual(in_round(PLAIN), {"b": 8, "w": 2})
        self.assertEqual(in_round(row=read_row("r240")), {"r": 1})
        self.assertEqual(in_round(read_row("abc100 ab20 fold")), {"abc": 200, "ab": 40})
        for row in ROWS:
            told = in_round(row)
            self.assertIs(type(told), dict)
            self.assertEqual(told, {shade: counted(row, (shade,), 0, len(row) - 1) for shade in row.shades()})

    def test_new_each_time(self):
        told = in_round(PLAIN)
        told["b"] = 3
        told["r"] = 4
        del told["w"]
        self.assertEqual(in_round(PLAIN), {"b": 8, "w": 2})
        self.assertEqual(amount(PLAIN, "b"), 8)


class Values(unittest.TestCase):
    def test_the_row_stays(self):
        row = read_row("a1 b2 c3 b1 run 3")
        before = (row.threads(), row.shades(), str(row))
        amount(row, "b", -5, BIG)
        how_many(row, -BIG, BIG, lambda shade: shade == "a")
        nth(row, "c", BIG, -BIG)
        with self.assertRaises(NoShade):
            amount(row, 5)
        self.assertEqual((row.threads(), row.shades(), str(row)), before)


if __name__ == "__main__":
    unittest.main()
