"""[12], [22], [2], [3] Pieces."""

import unittest

from things import BIG, NO_SPOTS, NO_TEXTS, WRONG_THREADS

from stripelay.errors import NoCut, NoSpot, NoThreads, TooLong
from stripelay.pieces import Piece, cut
from stripelay.rows import Row
from stripelay.rowtexts import read_row

ROW = read_row("a1 b2 c3 b1 run 3")
THREADS = (("b",), ("b", "w"), ("b", "b", "w", "abc"), ("b",) * 240, ("b", "w", "r") * 80, ("run",))


class Pieces(unittest.TestCase):
    def test_threads_and_len(self):
        for threads in THREADS:
            piece = Piece(threads)
            self.assertEqual(piece.threads(), threads)
            self.assertIs(type(piece.threads()), tuple)
            self.assertEqual(len(piece), len(threads))
        self.assertEqual(len(Piece(threads=("b", "w"))), 2)

    def test_no_threads(self):
        for thing in WRONG_THREADS + NO_TEXTS + (ROW, Piece(("b",)), (Piece(("b",)),), (("b", 8), ("w", 2))):
            if thing == ("run",):
                continue
            with self.assertRaises(NoThreads):
                Piece(thing)

    def test_equal(self):
        for threads in THREADS:
            self.assertIs(Piece(threads) == Piece(tuple(list(threads))), True)
            self.assertIs(Piece(threads) != Piece(tuple(list(threads))), False)
        for threads in THREADS:
            self.assertEqual([Piece(threads) == Piece(other) for other in THREADS], [threads == other for other in THREADS])

    def test_unequal(self):
        piece = Piece(("a", "b", "b"))
        for other in (("b", "b", "a"), ("a", "b"), ("a", "b", "b", "b"), ("a", "b", "c"), ("a", "bb"), ("b", "a", "b")):
            self.assertIs(piece == Piece(other), False)
            self.assertIs(piece != Piece(other), True)

    def test_what_is_no_piece(self):
        piece = Piece(("a", "b", "b"))
        for thing in NO_TEXTS + (("a", "b", "b"), ["a", "b", "b"], "a1 b2", repr(piece), read_row("a1 b2")):
            self.assertIs(piece == thing, False)
            self.assertIs(thing == piece, False)
            self.assertIs(piece != thing, True)

    def test_str(self):
        self.assertEqual(str(Piece(("b",))), "b1")
        self.assertEqual(str(Piece(("b", "b", "w", "b", "abc", "abc"))), "b2 w1 b1 abc2")
        self.assertEqual(str(Piece(("b",) * 240)), "b240")
        # As it lies: neither the least beginning nor the least round.
        self.assertEqual(str(Piece(("w", "b", "w", "b"))), "w1 b1 w1 b1")

    def test_repr(self):
        self.assertEqual(repr(Piece(("b",))), "Piece(('b',))")
        self.assertEqual(repr(Piece(("b", "b", "w"))), "Piece(('b', 'b', 'w'))")
        for threads in THREADS:
            self.assertEqual(eval(repr(Piece(threads)), {"Piece": Piece}).threads(), threads)


class Joined(unittest.TestCase):
    def test_one_behind_the_other(self):
        piece = Piece(("a", "b"))
        told = piece.joined(Piece(("c", "b", "a")))
        self.assertIsInstance(told, Piece)
        self.assertEqual(told.threads(), ("a", "b", "c", "b", "a"))
        self.assertEqual(piece.joined(piece).threads(), ("a", "b", "a", "b"))
        self.assertEqual(Piece(("c",)).joined(other=piece).threads(), ("c", "a", "b"))

    def test_to_240_threads(self):
        for many in (1, 100, 120, 239):
            told = Piece(("a",) * many).joined(Piece(("b",) * (240 - many)))
            self.assertEqual(told.threads(), ("a",) * many + ("b",) * (240 - many))

    def test_too_long(self):
        for many, others in ((1, 240), (240, 1), (121, 120), (240, 240), (239, 2)):
            with self.assertRaises(TooLong) as caught:
                Piece(("a",) * many).joined(Piece(("b",) * others))
            self.assertEqual(caught.exception.long, many + others)
        piece = Piece(("a",) * 121)
        with self.assertRaises(TooLong) as caught:
            piece.joined(piece)
        self.assertEqual(caught.exception.long, 242)

    def test_both_stay(self):
        piece, other = Piece(("a", "b")), Piece(("c",))
        piece.joined(other).joined(piece)
        self.assertEqual((piece.threads(), other.threads()), (("a", "b"), ("c",)))


class Cut(unittest.TestCase):
    def test_near_and_far(self):
        for first in (-20, -7, -1, 0, 1, 5, 7, 10 ** 29 + 3, -10 ** 29 - 3, -BIG, BIG - 30):
            for many in (1, 2, 6, 7, 8, 20, 31):
                told = cut(ROW, first, first + many - 1)
                self.assertIsInstance(told, Piece)
                self.assertEqual(told.threads(), tuple(ROW.at(spot) for spot in range(first, first + many)))

    def test_one_thread_and_240(self):
        for spot in (0, 3, BIG, -BIG):
            self.assertEqual(cut(ROW, spot, spot).threads(), (ROW.at(spot),))
        for first in (0, -100, BIG - 239, -BIG):
            self.assertEqual(cut(ROW, first, first + 239).threads(), tuple(ROW.at(spot) for spot in range(first, first + 240)))

    def test_by_names(self):
        self.assertEqual(cut(last=4, first=2, row=Row((("b", 3), ("w", 2)))).threads(), ("b", "w", "w"))

    def test_no_spot(self):
        for thing in NO_SPOTS:
            for first, last in ((thing, 0), (0, thing), (thing, True), (BIG, thing), (thing, thing)):
                with self.assertRaises(NoSpot) as caught:
                    cut(ROW, first, last)
                self.assertIs(caught.exception.spot, thing)

    def test_no_cut(self):
        for first, last in ((0, -1), (5, 4), (5, -300), (BIG, -BIG), (-BIG, BIG), (0, 240), (-1, 239), (BIG - 240, BIG),
                            (-BIG, 240 - BIG), (1 - BIG, -BIG)):
            with self.assertRaises(NoCut) as caught:
                cut(ROW, first, last)
            self.assertEqual((caught.exception.first, caught.exception.last), (first, last))

    def test_the_row_stays(self):
        before = ROW.threads()
        cut(ROW, -3, 30)
        self.assertEqual(ROW.threads(), before)
        self.assertEqual(cut(ROW, 0, 5), cut(ROW, 0, 5))


if __name__ == "__main__":
    unittest.main()
