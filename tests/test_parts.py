"""[14], [15], [2], [3] Rows seen in part."""

import itertools
import unittest

from things import BIG, NO_SPOTS

from stripelay.errors import NoNumber
from stripelay.parts import can_be, enough
from stripelay.pieces import Piece, cut
from stripelay.rows import Row
from stripelay.rowtexts import read_row
from stripelay.stripes import stripes_of

FEW_THREADS = [threads for many in range(1, 8) for threads in itertools.product("bw", repeat=many)]
ROWS = {}
for told in FEW_THREADS:
    ROWS[Row(stripes_of(told)).threads()] = Row(stripes_of(told))


def shows(row, threads):
    return all(row.at(spot) == thread for spot, thread in enumerate(threads))


def rounds_shown(threads, most):
    """The rounds up to MOST of rows that show the threads, each found by trying the row."""
    told = []
    for size in range(1, most + 1):
        over = (threads[:size] * (len(threads) // size + 1))[:len(threads)]
        if over == threads and not any(size % less == 0 and threads[:less] * (size // less) == threads[:size]
                                       for less in range(1, size)):
            told.append(size)
    return told


def is_enough(row, most, many):
    if many < most:
        return False
    spots = row.threads() * (many // len(row) + 2)
    return all(rounds_shown(spots[first:first + many], most) == [len(row)] for first in range(len(row)))


class CanBe(unittest.TestCase):
    def check(self, told, piece, most):
        self.assertIs(type(told), list)
        rounds = [len(row) for row in told]
        self.assertEqual(rounds, sorted(set(rounds)))
        self.assertTrue(all(size <= most for size in rounds))
        for row in told:
            self.assertIsInstance(row, Row)
            self.assertTrue(shows(row, piece.threads()))
        self.assertEqual(rounds, rounds_shown(piece.threads(), most))

    def test_all_rows_and_no_others(self):
        for threads in FEW_THREADS:
            for most in range(1, len(threads) + 1):
                told = {row.threads() for row in can_be(Piece(threads), most)}
                wanted = {other for other, row in ROWS.items() if len(row) <= most and shows(row, threads)}
                self.assertEqual(told, wanted)
                self.check(can_be(Piece(threads), most), Piece(threads), most)

    def test_most_by_default(self):
        for threads in FEW_THREADS:
            told = [row.threads() for row in can_be(Piece(threads))]
            self.assertEqual(told, [row.threads() for row in can_be(Piece(threads), len(threads))])
            self.assertEqual(told, [row.threads() for row in can_be(Piece(threads), None)])

    def test_written_out(self):
        self.assertEqual([repr(row) for row in can_be(Piece(("b", "w", "b")))],
                         ["Row((('b', 1), ('w', 1)))", "Row((('b', 1), ('w', 1), ('b', 1)))"])
        self.assertEqual([row.threads() for row in can_be(Piece(("b", "b", "b")))], [("b",)])
        self.assertEqual([row.threads() for row in can_be(Piece(("b", "w")), 1)], [])
        self.assertEqual([row.threads() for row in can_be(most=2, piece=Piece(("b", "w")))], [("b", "w")])

    def test_cut_once_to_thrice_over_and_a_rest(self):
        for text in ("a1 b2 c3 b1", "b8 w2", "b1", "a1 b1", "a2 b1 c1 fold", "b70 w9"):
            row = read_row(text)
            for first in (0, 1, 5, BIG - 240, -BIG):
                for many in (len(row), len(row) + 1, 2 * len(row), 2 * len(row) + 1, 3 * len(row), 3 * len(row) + 2):
                    piece = cut(row, first, first + many - 1)
                    told = can_be(piece)
                    self.check(told, piece, many)
                    self.assertTrue(any(other.moved(first).alike(row) for other in told))
                    self.assertEqual(any(other.moved(first).alike(row) for other in can_be(piece, len(row))), True)

    def test_one_thread_otherwise(self):
        threads = cut(read_row("a1 b2 c3 b1"), 0, 22).threads()
        for place in range(len(threads)):
            piece = Piece(threads[:place] + ("d",) + threads[place + 1:])
            self.check(can_be(piece), piece, len(piece))
            self.assertNotIn(7, [len(row) for row in can_be(piece)])

    def test_one_thread(self):
        self.assertEqual([row.threads() for row in can_be(Piece(("b",)))], [("b",)])
        self.assertEqual([row.threads() for row in can_be(Piece(("b",)), 1)], [("b",)])

    def test_240_threads(self):
        self.assertEqual([row.threads() for row in can_be(Piece(("b",) * 240))], [("b",)])
        piece = Piece(("b",) * 239 + ("w",))
        self.assertEqual([row.threads() for row in can_be(piece)], [piece.threads()])
        self.assertEqual(can_be(piece, 239), [])
        piece = Piece(("b",) * 120 + ("w",) + ("b",) * 119)
        self.check(can_be(piece), piece, 240)
        self.assertEqual([len(row) for row in can_be(piece)], list(range(121, 241)))

    def test_new_each_time(self):
        piece = Piece(("b", "w", "b"))
        told = can_be(piece)
        told.clear()
        self.assertEqual(len(can_be(piece)), 2)
        self.assertEqual(piece.threads(), ("b", "w", "b"))

    def test_no_number(self):
        for threads in (("b",), ("b", "w", "b"), ("b",) * 240):
            for thing in NO_SPOTS + (0, -1, -BIG, BIG, len(threads) + 1):
                if thing is not None:
                    with self.assertRaises(NoNumber):
                        can_be(Piece(threads), thing)


class Enough(unittest.TestCase):
    def check(self, row, most):
        told = enough(row, most)
        self.assertIs(type(told), int)
        self.assertTrue(is_enough(row, most, told), (row, most))
        self.assertFalse(is_enough(row, most, told - 1), (row, most))
        return told

    def test_the_least_that_is_enough(self):
        for row in ROWS.values():
            for most in range(len(row), len(row) + 9):
                told = self.check(row, most)
                self.assertEqual(next(many for many in range(1, 99) if is_enough(row, most, many)), told)

    def test_by_pieces_cut(self):
        for text in ("b1", "b8 w2", "a1 b2 c3 b1 run 3", "a2 b1 c1 fold", "b3 w1 b2 w1 b3 w2"):
            row = read_row(text)
            for most in (len(row), len(row) + 1, 2 * len(row) - 1, 2 * len(row), 3 * len(row) + 1):
                told = enough(row, most)
                for first in (*range(len(row)), BIG - 240, -BIG):
                    left = can_be(cut(row, first, first + told - 1), most)
                    self.assertEqual([other.moved(first).alike(row) for other in left], [True])
                if told > most:
                    self.assertTrue(any(len(can_be(cut(row, first, first + told - 2), most)) > 1 for first in range(len(row))))

    def test_one_shade(self):
        for most in (1, 2, 7, 239, 240):
            self.assertEqual(enough(read_row("b5"), most), most)

    def test_two_shades(self):
        self.assertEqual(enough(read_row("b1 w1"), 2), 2)
        self.assertEqual(enough(read_row("b1 w1"), 3), 4)
        self.assertEqual(enough(read_row("b1 w1"), 240), 240)
        self.assertEqual(enough(read_row("b2 w1"), 3), 4)
        self.assertEqual(enough(row=read_row("b8 w2"), most=10), self.check(read_row("b8 w2"), 10))

    def test_rounds_to_some_twenty(self):
        for text in ("b19 w1", "b10 w10", "a1 b2 c3 d4 e5 f6", "b5 w1 b4 w1 b5 w1 b5", "a3 b4 c4 fold", "b1 w1 b1 w1 b1 w2"):
            row = read_row(text)
            for most in (len(row), len(row) + 1, 30, 45):
                self.check(row, most)

    def test_above_240(self):
        for text, most in (("b19 w1", 239), ("b19 w1", 240), ("a1 b2 c3 d1", 240), ("b8 w2 run 4", 237), ("b1 w1", 239)):
            self.check(read_row(text), most)
        self.assertEqual(enough(read_row("b1 w1"), 239), 240)
        # Between w here and w 239 further there are 18 threads b that agree.
        self.assertEqual(enough(read_row("b19 w1"), 240), 239 + 18 + 1)
        self.assertEqual(enough(read_row("b239 w1"), 240), 239 + 238 + 1)

    def test_begun_elsewhere(self):
        row = read_row("b3 w1 b2 w1 b3 w2")
        self.assertEqual({enough(row.moved(by), 30) for by in range(len(row))}, {enough(row, 30)})
        self.assertEqual(enough(row.turned(), 30), enough(row, 30))

    def test_no_number(self):
        for text in ("b1", "b8 w2", "b239 w1"):
            row = read_row(text)
            for thing in NO_SPOTS + (0, -1, len(row) - 1, 241, 300, BIG, -BIG):
                with self.assertRaises(NoNumber):
                    enough(row, thing)

    def test_the_row_stays(self):
        row = read_row("a1 b2 c3 b1 run 3")
        before = row.threads()
        self.assertEqual(enough(row, 240), enough(row, 240))
        self.assertEqual(row.threads(), before)


if __name__ == "__main__":
    unittest.main()
