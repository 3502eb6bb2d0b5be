"""[13], [2], [3] Where pieces fit, and where two go on."""

import itertools
import unittest

from things import BIG, NO_SPOTS

from stripelay.errors import NoNumber
from stripelay.fits import fits, goes_on
from stripelay.pieces import Piece, cut
from stripelay.rows import Row
from stripelay.rowtexts import read_row
from stripelay.stripes import stripes_of

FEW_THREADS = [threads for many in range(1, 6) for threads in itertools.product("bw", repeat=many)]
ROWS = [Row(stripes_of(threads), "run", 1) for threads in FEW_THREADS] + [read_row("a1 b2 c3 b1 run 3")]
ROW = read_row("b8 w2")


def lies_at(row, piece, spot):
    return all(row.at(spot + place) == thread for place, thread in enumerate(piece.threads()))


def at_all(row, piece):
    return tuple(spot for spot in range(len(row)) if lies_at(row, piece, spot))


class Fits(unittest.TestCase):
    def test_told_spots_and_nowhere_else(self):
        for row in ROWS:
            for threads in FEW_THREADS + [tuple("bwbwbwbw"), tuple("bbbbbbbb"), tuple("bwwbwwbwwb"), tuple("ccb"), tuple("bbccc")]:
                told = fits(row, Piece(threads))
                self.assertIs(type(told), tuple)
                self.assertEqual(told, at_all(row, Piece(threads)))

    def test_written_out(self):
        self.assertEqual(fits(ROW, Piece(("w",))), (8, 9))
        self.assertEqual(fits(ROW, Piece(("b",) * 7)), (0, 1))
        self.assertEqual(fits(ROW, Piece(("w", "b"))), (9,))
        self.assertEqual(fits(ROW, Piece(("w", "b", "w"))), ())
        self.assertEqual(fits(piece=Piece(("b", "w")), row=ROW), (7,))

    def test_longer_than_the_round(self):
        self.assertEqual(fits(ROW, cut(ROW, 4, 243)), (4,))
        self.assertEqual(fits(ROW, cut(ROW, 4, 242).joined(Piece(("w",)))), ())
        self.assertEqual(fits(read_row("b1 w1"), Piece(("w", "b") * 120)), (1,))
        self.assertEqual(fits(read_row("b5"), Piece(("b",) * 240)), (0,))
        self.assertEqual(fits(read_row("b5"), Piece(("b",) * 239 + ("w",))), ())

    def test_cut_from_far(self):
        for first in (BIG - 20, -BIG, 7 - BIG):
            self.assertEqual(fits(ROW, cut(ROW, first, first + 11)), (first % 10,))

    def test_a_thread_that_the_row_has_not(self):
        for threads in (("r",), ("b", "r"), ("bb",), ("b",) * 8 + ("w", "ww")):
            self.assertEqual(fits(ROW, Piece(threads)), ())

    def test_both_stay(self):
        piece = Piece(("b", "w"))
        self.assertEqual((fits(ROW, piece), fits(ROW, piece)), ((7,), (7,)))
        self.assertEqual((ROW.threads(), piece.threads()), (("b",) * 8 + ("w",) * 2, ("b", "w")))


class GoesOn(unittest.TestCase):
    def test_spot_by_spot(self):
        few = [Piece(threads) for threads in FEW_THREADS[:14]]
        for row in ROWS[::3]:
            for piece in few:
                for other in few:
                    for gap in (0, 1, 2, 5, 7):
                        wanted = tuple(spot for spot in range(len(row)) if lies_at(row, piece, spot)
                                       and lies_at(row, other, spot + len(piece) + gap))
                        told = goes_on(row, piece, other, gap)
                        self.assertIs(type(told), tuple)
                        self.assertEqual(told, wanted)

    def test_without_a_gap(self):
        for row in ROWS:
            for threads in FEW_THREADS[:14]:
                piece, other = Piece(threads), Piece(("b", "w"))
                self.assertEqual(goes_on(row, piece, other), fits(row, piece.joined(other)))
                self.assertEqual(goes_on(row, piece, other, 0), fits(row, piece.joined(other)))

    def test_gaps_to_a_round_and_beyond(self):
        piece, other = Piece(("b",) * 3), Piece(("w",))
        for gap in list(range(25)) + [10 ** 29 + 3, BIG - 1, BIG]:
            wanted = tuple(spot for spot in range(6) if (spot + 3 + gap) % 10 in (8, 9))
            self.assertEqual(goes_on(ROW, piece, other, gap), wanted)
        self.assertEqual(goes_on(ROW, piece, other, 3), (2, 3))
        self.assertEqual(goes_on(ROW, piece, other, BIG), (5,))
        self.assertEqual(goes_on(ROW, piece, piece, BIG), (0, 1, 2))
        self.assertEqual(goes_on(gap=13, other=other, piece=piece, row=ROW), (2, 3))

    def test_long_pieces(self):
        piece, other = cut(ROW, 3, 242), cut(ROW, 5, 244)
        self.assertEqual(goes_on(ROW, piece, other, 2), (3,))
        self.assertEqual(goes_on(ROW, piece, other, 1), ())

    def test_no_number(self):
        for thing in NO_SPOTS + (-1, -BIG):
            with self.assertRaises(NoNumber):
                goes_on(ROW, Piece(("b",)), Piece(("b",)), thing)
            with self.assertRaises(NoNumber):
                goes_on(ROW, Piece(("r",)), Piece(("r",)), thing)


if __name__ == "__main__":
    unittest.main()
