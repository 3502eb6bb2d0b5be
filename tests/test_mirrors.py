"""[11], [2], [3] Mirrors, and the least telling."""

import itertools
import unittest

from stripelay.mirrors import least_telling, mirror
from stripelay.rows import Row
from stripelay.rowtexts import read_row
from stripelay.stripes import are_stripes, stripes_of, threads_of

MANNERS = ("run", "pivot", "fold", "left", "right")
FEW_THREADS = [threads for many in range(1, 7) for threads in itertools.product("bw", repeat=many)]
FEW_THREADS += [threads for many in range(1, 5) for threads in itertools.product("abc", repeat=many)]
TEXTS = ("a1 b2 c3 pivot 4", "a1 b2 c3 fold 4", "a1 b2 c3 left 4", "a1 b2 c3 right 4", "a1 b2 c3 run 4", "b240", "r1", "a1 b1",
         "a1 b1 run 1", "b8 w2 run 3", "a1 b1 c1", "a1 b1 c1 d1", "b100 w99 b1 r40", "a1 b119 fold 7", "a1 b120 pivot -5",
         "a1 b2 c117 left 9", "a3 b2 c115 right 1", "b239 w1 run 100", "b238 w1 run 100")
ROWS = [read_row(text) for text in TEXTS]


def is_mirror(row, number):
    return all(row.at(spot) == row.at(number - spot) for spot in range(len(row)))


def all_tellings(most):
    """Each row of few threads, as its threads from 0 on, with the fewest threads of all its tellings."""
    fewest = {}
    for threads in [told for told in FEW_THREADS if len(told) <= most]:
        for manner in MANNERS:
            row = Row(stripes_of(threads), manner)
            for start in range(len(row)):
                told = row.moved(-start).threads()
                fewest[told] = min(len(threads), fewest.get(told, len(threads)))
    return fewest


class Mirrors(unittest.TestCase):
    def test_written_out(self):
        for text, wanted in (("a1 b2 c3 pivot", 0), ("a1 b1 c1 fold", 5), ("a1 b1 c1 left", 0), ("a1 b1 c1 right", 4),
                             ("b8 w2", 7), ("a1 b1", 0), ("b5", 0), ("a1 b1 c1", None), ("a1 b2 c3 pivot 1", 8),
                             ("a1 b1 c1 fold 2", 1), ("a1 b1 c1 left 1", 3), ("a1 b1 c1 right -1", 1)):
            self.assertEqual(mirror(read_row(text)), wanted, text)

    def test_the_least_of_all(self):
        for row in [Row(stripes_of(threads)) for threads in FEW_THREADS] + ROWS:
            wanted = next((number for number in range(len(row)) if is_mirror(row, number)), None)
            self.assertEqual(mirror(row), wanted)

    def test_all_others_are_more_or_less_by_rounds(self):
        for row in [Row(stripes_of(threads), "run", 1) for threads in FEW_THREADS]:
            told = mirror(row)
            numbers = [number for number in range(-12, 13) if is_mirror(row, number)]
            wanted = [number for number in range(-12, 13) if told is not None and (number - told) % len(row) == 0]
            self.assertEqual(numbers, wanted)

    def test_each_manner_has_one(self):
        for manner in MANNERS[1:]:
            for start in (-3, 0, 5):
                self.assertIsNotNone(mirror(read_row(f"a1 b2 c4 d1 {manner} {start}")))

    def test_moved_and_turned(self):
        row = read_row("a1 b2 c4 d1 fold")
        for by in range(-20, 20):
            self.assertEqual(mirror(row.moved(by)), (mirror(row) + 2 * by) % len(row))
        self.assertEqual(mirror(row.moved(3).turned()), -mirror(row.moved(3)) % len(row))
        crooked = read_row("a1 b2 c4 d1")
        self.assertIsNone(mirror(crooked.moved(10 ** 30)))
        self.assertIsNone(mirror(row=crooked.turned()))


class LeastTelling(unittest.TestCase):
    def check(self, row):
        told = least_telling(row)
        self.assertIs(type(told), tuple)
        stripes, manner, start = told
        self.assertTrue(are_stripes(stripes))
        self.assertIn(manner, MANNERS)
        self.assertIs(type(start), int)
        self.assertGreaterEqual(start, 0)
        self.assertTrue(Row(stripes, manner, start).alike(row), (row, told))
        return len(threads_of(stripes))

    def test_tells_the_row(self):
        for row in ROWS:
            for moved in (row, row.moved(1), row.moved(-7), row.moved(10 ** 30), row.turned(), row.moved(2).turned()):
                self.check(moved)

    def test_no_telling_has_fewer_threads(self):
        # All tellings of up to six threads of b and w, and of up to four of a, b and c.
        fewest = all_tellings(6)
        for told, many in fewest.items():
            self.assertEqual(self.check(Row(stripes_of(told))), many, told)

    def test_rows_without_so_short_a_telling(self):
        fewest = all_tellings(6)
        for threads in itertools.product("bw", repeat=9):
            row = Row(stripes_of(threads))
            many = self.check(row)
            if row.threads() not in fewest:
                self.assertGreater(many, 6)
            else:
                self.assertEqual(many, fewest[row.threads()])

    def test_how_many_threads(self):
        for text, many in (("b8 w2", 5), ("b240", 1), ("a1 b1", 2), ("a1 b1 c1", 3), ("a2 b1", 2), ("a2 b1 a2 c1", 4),
                           ("b100 w99 b1 r40", 240), ("a1 b119 fold 7", 120), ("a1 b120 pivot -5", 121),
                           ("a1 b2 c117 left 9", 120), ("a3 b2 c115 right 1", 120), ("b239 w1 run 100", 121),
                           ("b238 w1 run 100", 120)):
            self.assertEqual(self.check(read_row(text)), many, text)

    def test_by_name(self):
        self.assertEqual(threads_of(least_telling(row=read_row("r7"))[0]), ("r",))

    def test_the_same_each_time_and_the_row_stays(self):
        row = read_row("a1 b2 c4 d1 fold 5")
        before = row.threads()
        self.assertEqual((least_telling(row), mirror(row)), (least_telling(row), mirror(row)))
        self.assertEqual(row.threads(), before)


if __name__ == "__main__":
    unittest.main()
