"""[17], [2], [3] Rows laid over others, and rows by turns."""

import itertools
import unittest

from things import BIG, NO_SHADES

from stripelay.errors import NoShade, TooLong
from stripelay.laying import by_turns, laid
from stripelay.rows import Row
from stripelay.rowtexts import read_row
from stripelay.stripes import stripes_of

ROWS = [Row(stripes_of(threads)) for many in range(1, 5) for threads in itertools.product("bw", repeat=many)]
ROWS += [read_row("a1 b2 c3 b1 run 3"), read_row("abc1 b2 w1 fold 2"), read_row("r7")]
FAR = (BIG, BIG - 1, -BIG, 1 - BIG, 10 ** 29 + 7, -10 ** 29 - 8)


def least(spots):
    """The round of threads that are told over and over."""
    return next(size for size in range(1, len(spots) + 1) if len(spots) % size == 0 and spots[:size] * (len(spots) // size) == spots)


class Laid(unittest.TestCase):
    def check(self, row, other, clear):
        told = laid(row, other, clear)
        self.assertIsInstance(told, Row)
        for spot in (*range(-20, 40), *FAR):
            self.assertEqual(told.at(spot), other.at(spot) if row.at(spot) == clear else row.at(spot))
        return told

    def test_spot_by_spot(self):
        for row in ROWS:
            for other in ROWS:
                for clear in (*row.shades(), "zz"):
                    self.check(row, other, clear)

    def test_the_round_is_the_least(self):
        for row in ROWS:
            for other in ROWS:
                spots = tuple(other.at(spot) if row.at(spot) == "b" else row.at(spot) for spot in range(len(row) * len(other)))
                self.assertEqual(len(laid(row, other, "b")), least(spots))

    def test_a_shade_that_the_row_has_not(self):
        row = read_row("a1 b2 c3 b1 run 3")
        self.assertTrue(laid(row, read_row("r1 d1"), "r").alike(row))
        row = read_row("b238 w1 run 5")
        self.assertTrue(laid(row, read_row("b239 w1"), "r").alike(row))

    def test_all_clear(self):
        other = read_row("b239 w1 run 5")
        self.assertTrue(laid(read_row("r3"), other, "r").alike(other))

    def test_by_names(self):
        told = laid(clear="b", other=read_row("r1 d1"), row=read_row("b3 w1"))
        self.assertEqual(told.threads(), ("r", "d", "r", "w"))

    def test_no_shade(self):
        for thing in NO_SHADES:
            for row in (ROWS[0], read_row("b238 w1")):
                with self.assertRaises(NoShade) as caught:
                    laid(row, read_row("r239 w1"), thing)
                self.assertIs(caught.exception.shade, thing)

    def test_too_long(self):
        for text, other, long in (("b238 w1", "r239 w1", 239 * 240), ("b16 w1", "r14 d1", 255), ("b120 w1", "r1 d1", 242),
                                  ("b236 w1", "r237 d1", 237 * 238), ("w238 b1", "r1 w239", 239 * 240)):
            with self.assertRaises(TooLong) as caught:
                laid(read_row(text), read_row(other), "b")
            self.assertEqual(caught.exception.long, long)

    def test_to_240_threads(self):
        for text, other, long in (("b15 w1", "r14 d1", 240), ("b119 w1", "r1 d1", 120), ("b118 w1", "r1 d1", 238),
                                  ("b239 w1", "r1 d1", 240)):
            self.assertEqual(len(self.check(read_row(text), read_row(other), "b")), long)

    def test_short_though_the_common_multiple_is_great(self):
        self.assertEqual(len(laid(read_row("w238 b1"), read_row("w240"), "b")), 1)
        # At the even spots, where alone it is seen, the other one has d: 128 and 20 have the common multiple 640.
        row, other = read_row("b1 w127"), Row((("d", 1), ("e", 1)) * 9 + (("d", 1), ("f", 1)))
        self.assertEqual((len(row), len(other)), (128, 20))
        self.assertEqual(len(self.check(row, other, "b")), 128)


class ByTurns(unittest.TestCase):
    def check(self, row, other):
        told = by_turns(row, other)
        self.assertIsInstance(told, Row)
        for spot in (*range(-30, 31), BIG // 2 - 1, -BIG // 2, 10 ** 29 + 7, -10 ** 29 - 8):
            self.assertEqual((told.at(2 * spot), told.at(2 * spot + 1)), (row.at(spot), other.at(spot)))
        return told

    def test_spot_by_spot(self):
        for row in ROWS:
            for other in ROWS:
                self.check(row, other)

    def test_the_round_is_the_least(self):
        for row in ROWS:
            for other in ROWS:
                spots = tuple(thread for spot in range(len(row) * len(other)) for thread in (row.at(spot), other.at(spot)))
                self.assertEqual(len(by_turns(row, other)), least(spots))

    def test_with_itself(self):
        self.assertEqual(self.check(read_row("b2 w1"), read_row("b2 w1")).threads(), tuple("bbbbww"))
        self.assertEqual(self.check(read_row("b5"), read_row("b1")).threads(), ("b",))
        row = read_row("a1 b118 c1")
        self.assertEqual(len(self.check(row, row)), 240)

    def test_shorter_than_both_together(self):
        self.assertEqual(by_turns(read_row("a1 c1 b1"), read_row("b1 a1 c1")).threads(), ("a", "b", "c"))
        row = Row(tuple((shade, 1) for shade in ("b", "w") * 119 + ("r",)))
        self.assertEqual(len(row), 239)
        evens = Row(stripes_of(tuple(row.at(2 * spot) for spot in range(239))))
        odds = Row(stripes_of(tuple(row.at(2 * spot + 1) for spot in range(239))))
        self.assertTrue(self.check(evens, odds).alike(row))

    def test_by_names(self):
        self.assertEqual(by_turns(other=read_row("w1"), row=read_row("b1")).threads(), ("b", "w"))

    def test_too_long(self):
        for text, other, long in (("b120 w1", "b1", 242), ("b238 w1", "b239 w1", 2 * 239 * 240), ("b15 w1", "r14 w1", 480),
                                  ("b120 w1", "b120 w1", 242), ("b10 w1", "r10 w2", 264), ("b239 w1", "b1", 480)):
            with self.assertRaises(TooLong) as caught:
                by_turns(read_row(text), read_row(other))
            self.assertEqual(caught.exception.long, long)
        self.assertEqual(len(by_turns(read_row("b119 w1"), read_row("b1"))), 240)
        self.assertEqual(len(by_turns(read_row("b7 w1"), read_row("b14 w1"))), 240)


class Values(unittest.TestCase):
    def test_both_stay(self):
        row, other = read_row("a1 b2"), read_row("c3 d1")
        laid(row, other, "b")
        by_turns(row, other)
        with self.assertRaises(NoShade):
            laid(row, other, "B")
        self.assertEqual((row.threads(), other.threads()), (tuple("abb"), tuple("cccd")))


if __name__ == "__main__":
    unittest.main()
