"""[9], [2], [3] Moves between rows, rows in order."""

import itertools
import unittest

from things import BIG

from stripelay.moves import move_between, ordered
from stripelay.rows import Row
from stripelay.rowtexts import read_row
from stripelay.stripes import stripes_of

ROWS = [Row(stripes_of(threads)) for many in range(1, 6) for threads in itertools.product("bw", repeat=many)]


def first_move(row, other):
    return next((by for by in range(len(row)) if row.moved(by).alike(other)), None)


class Moves(unittest.TestCase):
    def test_near_and_far(self):
        row = read_row("a1 b2 c3 b1")
        for by in (0, 1, 2, 6, 7, 8, 100, -1, -6, -8, BIG, -BIG):
            told = move_between(row, row.moved(by))
            self.assertEqual(told, by % 7)
            self.assertTrue(row.moved(told).alike(row.moved(by)))
        self.assertEqual(move_between(other=row.moved(2), row=row), 2)
        self.assertEqual(move_between(row.moved(2), row), 5)

    def test_told_otherwise(self):
        self.assertEqual(move_between(read_row("a1 b1 c1 pivot"), read_row("b1 a1 b1 c1")), 1)
        self.assertEqual(move_between(read_row("b240"), read_row("b1")), 0)
        self.assertEqual(move_between(read_row("b1 w1"), read_row("w1 b1 w1 b1")), 1)

    def test_turned(self):
        self.assertIsNone(move_between(read_row("a1 b1 c1 d1"), read_row("a1 b1 c1 d1").turned()))
        self.assertEqual(move_between(read_row("a2 b1 c1 fold 1"), read_row("a2 b1 c1 fold 1").turned()), 3)

    def test_never(self):
        row = read_row("a1 b2 c3 b1")
        for text in ("a1 b2 c3 d1", "a1 b1 c3 b2", "a1 b2 c3", "a1 b2 c3 b1 a1 b2 c3 b2", "a1", "a1 b2 c4 b1"):
            self.assertIsNone(move_between(row, read_row(text)), text)
            self.assertIsNone(move_between(read_row(text), row), text)

    def test_the_least_of_all_and_no_others(self):
        for row in ROWS:
            for other in ROWS:
                told = move_between(row, other)
                self.assertEqual(told, first_move(row, other))
                self.assertIs(told is not None, row == other)
                if told is not None:
                    moves = [by for by in range(-10, 11) if row.moved(by).alike(other)]
                    self.assertEqual(moves, [by for by in range(-10, 11) if (by - told) % len(row) == 0])

    def test_nothing_handed_in_is_changed(self):
        row, other = read_row("a1 b2 c3"), read_row("b2 c3 a1")
        move_between(row, other)
        self.assertEqual((row.threads(), other.threads()), (tuple("abbccc"), tuple("bbccca")))


class Order(unittest.TestCase):
    def setUp(self):
        texts = ("w1 b3", "a2 b1", "c1", "b1 a2", "b2 a1", "c3 a9", "b1 w1")
        self.rows = [read_row(text) for text in texts]

    def places(self, told):
        """By the rows themselves: rows that are one stand in it at places of their own."""
        return [[row is wanted for row in self.rows].index(True) for wanted in told]

    def test_by_str(self):
        texts = [str(row) for row in self.rows]
        self.assertEqual(texts, ["b3 w1", "a2 b1", "c1", "a2 b1", "a1 b2", "a9 c3", "b1 w1"])
        told = ordered(self.rows)
        self.assertEqual([str(row) for row in told], sorted(texts))
        self.assertEqual(self.places(told), [4, 1, 3, 5, 6, 0, 2])

    def test_by_str_falling(self):
        self.assertEqual(self.places(ordered(self.rows, None, True)), [2, 0, 6, 5, 1, 3, 4])
        self.assertEqual(self.places(ordered(self.rows, falling=True)), [2, 0, 6, 5, 1, 3, 4])

    def test_by_keys(self):
        self.assertEqual(self.places(ordered(self.rows, len)), [2, 6, 1, 3, 4, 0, 5])
        self.assertEqual(self.places(ordered(self.rows, lambda row: row.threads())), [1, 3, 4, 6, 2, 5, 0])
        self.assertEqual(self.places(ordered(self.rows, key=lambda row: -len(row))), [5, 0, 1, 3, 4, 6, 2])
        self.assertEqual(self.places(ordered(rows=self.rows, key=lambda row: row.at(0), falling=False)),
                         [1, 3, 4, 6, 2, 5, 0])
        self.assertEqual(self.places(ordered(self.rows, Row.shades)), [1, 3, 4, 5, 0, 6, 2])

    def test_by_keys_falling(self):
        self.assertEqual(self.places(ordered(self.rows, len, True)), [5, 0, 1, 3, 4, 6, 2])
        self.assertEqual(self.places(ordered(falling=True, key=lambda row: row.at(0), rows=self.rows)),
                         [0, 2, 5, 3, 4, 6, 1])

    def test_the_same_key_for_all(self):
        self.assertEqual(self.places(ordered(self.rows, lambda row: 0)), list(range(7)))
        self.assertEqual(self.places(ordered(self.rows, lambda row: 0, True)), list(range(7)))

    def test_the_list_handed_in_stays(self):
        before = list(self.rows)
        for told in (ordered(self.rows), ordered(self.rows, len, True)):
            self.assertIsInstance(told, list)
            told.clear()
        self.assertEqual([row is other for row, other in zip(self.rows, before)], [True] * 7)
        self.assertEqual(len(ordered(self.rows)), 7)

    def test_no_rows_and_one(self):
        rows = []
        told = ordered(rows)
        told.append(1)
        self.assertEqual((rows, ordered(rows), ordered(rows, falling=True)), ([], [], []))
        self.assertEqual(len(ordered(self.rows[:1])), 1)


if __name__ == "__main__":
    unittest.main()
