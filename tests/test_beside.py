"""[16], [22], [2], [3] Two rows side by side."""

import itertools
import unittest

from things import BIG, NO_SHADES, NO_SPOTS

from stripelay.beside import first_meeting, first_unlike
from stripelay.errors import NoShade, NoSpot
from stripelay.rows import Row
from stripelay.rowtexts import read_row
from stripelay.stripes import stripes_of

ROWS = [Row(stripes_of(threads)) for many in range(1, 5) for threads in itertools.product("bw", repeat=many)]
ROWS += [read_row("b1 w1 b2 w2"), read_row("b2 w1 b2 w2"), read_row("a1 b2 c3 b1 run 3")]


def thread_at(row, spot):
    return row.threads()[spot % len(row)]


def walked(row, other, first, wanted):
    """The first spot from FIRST on where the pair of threads is wanted, in as many as both rounds multiplied."""
    for spot in range(first, first + len(row) * len(other)):
        if wanted(thread_at(row, spot), thread_at(other, spot)):
            return spot
    return None


class FirstUnlike(unittest.TestCase):
    def test_the_first_of_all(self):
        for row in ROWS:
            for other in ROWS:
                for first in (0, 3, -4):
                    told = first_unlike(row, other, first)
                    self.assertEqual(told, walked(row, other, first, lambda thread, twin: thread != twin))
                    self.assertIs(told is None, row.alike(other))

    def test_alike(self):
        for row in ROWS + [read_row("b200 w40")]:
            for other in (row, row.moved(len(row)), row.turned().turned(), row.moved(BIG).moved(-BIG)):
                for first in (0, 7, BIG, -BIG):
                    self.assertIsNone(first_unlike(row, other, first))

    def test_one_thread_otherwise(self):
        threads = ("b",) * 100 + ("w",) * 140
        for place in (0, 1, 99, 100, 239):
            other = Row(stripes_of(threads[:place] + ("r",) + threads[place + 1:]))
            row = Row(stripes_of(threads))
            for first in (0, 5, 100, 101, 240, -7, BIG, -BIG, 10 ** 29 + 7):
                self.assertEqual(first_unlike(row, other, first), first + (place - first) % 240)

    def test_rounds_of_a_great_common_multiple(self):
        self.assertEqual(first_unlike(read_row("b238 w1"), read_row("b239 w1")), 238)
        self.assertEqual(first_unlike(read_row("b238 w1"), read_row("b239 w1"), 239), 239)
        self.assertEqual(first_unlike(read_row("b238 w1"), read_row("b239 w1"), BIG),
                         walked(read_row("b238 w1"), read_row("b239 w1"), BIG, lambda thread, twin: thread != twin))

    def test_agreeing_as_far_as_unlike_rows_can(self):
        # Rounds of 5 and 8 that agree in 5 + 8 - 1 - 1 threads, and no two unlike rows of these rounds in more.
        row, other = read_row("a1 b1 a2 b1"), read_row("a1 b1 a2 b1 a1 b1 a1")
        self.assertEqual((len(row), len(other)), (5, 8))
        self.assertEqual(first_unlike(row, other), 11)
        self.assertEqual(first_unlike(row, other, 40 - BIG), 51 - BIG)

    def test_from_nought_where_first_is_not_told(self):
        self.assertEqual(first_unlike(read_row("b1"), read_row("w1")), 0)
        self.assertEqual(first_unlike(read_row("b1"), read_row("b1 w1 run 1")), 0)

    def test_beyond_big(self):
        row, other = read_row("b1"), read_row("b9 w1")
        self.assertEqual(first_unlike(row, other, BIG), BIG + 9)
        self.assertEqual(first_unlike(row, other, -BIG), 9 - BIG)

    def test_by_names(self):
        self.assertEqual(first_unlike(first=10, other=read_row("b9 w1"), row=read_row("b1")), 19)
        self.assertEqual(first_unlike(read_row("b1"), read_row("b9 w1"), first=3), 9)

    def test_no_spot(self):
        for thing in NO_SPOTS:
            for other in (ROWS[0], ROWS[5]):
                with self.assertRaises(NoSpot) as caught:
                    first_unlike(ROWS[0], other, thing)
                self.assertIs(caught.exception.spot, thing)


class FirstMeeting(unittest.TestCase):
    def test_the_first_of_all(self):
        for row in ROWS:
            for other in ROWS:
                for shade, second in itertools.product("abw", repeat=2):
                    for first in (0, 3, -4):
                        wanted = walked(row, other, first, lambda thread, twin: (thread, twin) == (shade, second))
                        self.assertEqual(first_meeting(row, shade, other, second, first), wanted)

    def test_never(self):
        row = read_row("b1 w1")
        self.assertIsNone(first_meeting(row, "b", row, "w"))
        self.assertIsNone(first_meeting(row, "b", read_row("w1 b1"), "b", BIG))
        self.assertIsNone(first_meeting(read_row("r1 b5"), "r", read_row("b1 w1 b3 w1 b2"), "w", -BIG))
        self.assertIsNone(first_meeting(read_row("r1 b239"), "r", read_row("b1 w1 b118"), "w"))

    def test_a_shade_that_one_has_not(self):
        row = read_row("b1 w1")
        for first in (0, BIG, -BIG):
            self.assertIsNone(first_meeting(row, "r", row, "b", first))
            self.assertIsNone(first_meeting(row, "b", row, "r", first))
            self.assertIsNone(first_meeting(row, "bw", row, "www", first))

    def test_a_great_common_multiple(self):
        # The last of 239 times 240 spots, and the one that is the first there and the second here.
        row, other = read_row("b238 w1"), read_row("b239 w1")
        self.assertEqual(first_meeting(row, "w", other, "w"), 239 * 240 - 1)
        self.assertEqual(first_meeting(row, "w", other, "w", 1), 239 * 240 - 1)
        self.assertEqual(first_meeting(row, "w", other, "w", 239 * 240), 2 * 239 * 240 - 1)
        for first in (-100, 0, 5000):
            for moved in (other.moved(1), other.moved(100)):
                wanted = walked(row, moved, first, lambda thread, twin: (thread, twin) == ("w", "w"))
                self.assertEqual(first_meeting(row, "w", moved, "w", first), wanted)

    def test_far_spots(self):
        row, other = read_row("b238 w1"), read_row("b239 w1")
        for first in (BIG, -BIG, BIG - 7, 10 ** 29 + 7):
            told = first_meeting(row, "w", other, "w", first)
            self.assertEqual(told, first + (239 * 240 - 1 - first) % (239 * 240))
        self.assertGreater(first_meeting(row, "w", other, "w", BIG), BIG)
        self.assertEqual(first_meeting(row, "b", other, "b", BIG), BIG)

    def test_by_names(self):
        row, other = read_row("a1 b2"), read_row("c3 d1")
        self.assertEqual(first_meeting(first=4, second="d", other=other, shade="b", row=row), 7)
        self.assertEqual(first_meeting(row, "a", other, "d", first=1), 3)
        self.assertEqual(first_meeting(row, "b", other, "c"), 1)
        self.assertEqual(first_meeting(row, "a", other, "c"), 0)

    def test_no_shade_then_no_spot(self):
        row = ROWS[5]
        for thing in NO_SHADES:
            for shade, second, first in ((thing, "b", 0), ("b", thing, 0), (thing, "B", True), ("r", thing, None)):
                with self.assertRaises(NoShade) as caught:
                    first_meeting(row, shade, row, second, first)
                self.assertIs(caught.exception.shade, thing)

    def test_no_spot(self):
        row = ROWS[5]
        for thing in NO_SPOTS:
            for shade, second in (("b", "b"), ("r", "b"), ("b", "r")):
                with self.assertRaises(NoSpot) as caught:
                    first_meeting(row, shade, row, second, thing)
                self.assertIs(caught.exception.spot, thing)

    def test_both_stay(self):
        row, other = read_row("a1 b2"), read_row("c3 d1")
        self.assertEqual(first_meeting(row, "a", other, "d", BIG), first_meeting(row, "a", other, "d", BIG))
        first_unlike(row, other)
        self.assertEqual((row.threads(), other.threads()), (tuple("abb"), tuple("cccd")))


if __name__ == "__main__":
    unittest.main()
