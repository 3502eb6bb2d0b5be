"""[18], [2], [3] Rows taken each so many threads."""

import itertools
import unittest

from things import BIG, NO_SPOTS

from stripelay.errors import NoStep
from stripelay.rows import Row
from stripelay.rowtexts import read_row
from stripelay.steps import each, step_back
from stripelay.stripes import stripes_of

ROWS = [Row(stripes_of(threads)) for many in range(1, 7) for threads in itertools.product("bw", repeat=many)]
ROWS += [read_row("a1 b2 c3 b1 run 3"), read_row("abc1 b2 w1 fold 2"), read_row("r7"), read_row("a1 b1 c1 d1 e1 f1 g1 h1")]
LONG = read_row("b100 w39 r100 g1 run 17")
SPOTS = (*range(-20, 21), 239, 240, 241, -240)
FAR_STEPS = (BIG, BIG - 1, -BIG, 1 - BIG, 10 ** 29 + 7, -10 ** 29 - 8)


def steps_for(row):
    size = len(row)
    return (1, -1, 2, -2, 3, size, size + 1, -size, -size - 1, 2 * size + 1, *((size - 1, 1 - size) if size > 1 else ()), *FAR_STEPS)


def gives_back(row, step, number):
    """Spot by spot over more than a round: at S is what was at S times NUMBER of what was at S times STEP."""
    threads = row.threads()
    return all(threads[spot * number * step % len(threads)] == threads[spot % len(threads)] for spot in range(len(threads)))


class Each(unittest.TestCase):
    def check(self, row, step):
        told = each(row, step)
        self.assertIsInstance(told, Row)
        threads = row.threads()
        for spot in SPOTS:
            self.assertEqual(told.at(spot), threads[spot * step % len(threads)], (str(row), step, spot))
        for spot in (BIG, -BIG, 10 ** 29 + 3):
            self.assertEqual(told.at(spot), threads[spot * step % len(threads)])
        return told

    def test_spot_by_spot(self):
        for row in ROWS + [LONG]:
            for step in steps_for(row):
                self.check(row, step)

    def test_near_steps_as_the_row_tells(self):
        for row in ROWS:
            for step in (-7, -2, -1, 1, 2, 5):
                told = each(row, step)
                for spot in range(-9, 10):
                    self.assertEqual(told.at(spot), row.at(spot * step))

    def test_known(self):
        row = read_row("a1 b1 c1 d1 e1 f1")
        for step, threads in ((1, "abcdef"), (2, "ace"), (3, "ad"), (4, "aec"), (5, "afedcb"), (6, "a"), (7, "abcdef"),
                              (-1, "afedcb"), (-2, "aec"), (-3, "ad"), (-6, "a"), (12, "a"), (BIG, "aec"), (-BIG, "ace")):
            self.assertEqual(each(row, step).threads(), tuple(threads), step)

    def test_one_and_minus_one(self):
        for row in ROWS + [LONG]:
            self.assertTrue(each(row, 1).alike(row))
            self.assertTrue(each(row, -1).alike(row.turned()))
            self.assertTrue(each(row, len(row) + 1).alike(row))
            self.assertEqual(each(row, len(row)).threads(), (row.at(0),))

    def test_by_names(self):
        self.assertEqual(each(step=2, row=read_row("a1 b1 c1 d1")).threads(), ("a", "c"))

    def test_the_row_stays(self):
        row = read_row("a1 b2 c3")
        each(row, 5)
        step_back(row, 5)
        for deed in (each, step_back):
            with self.assertRaises(NoStep):
                deed(row, 0)
        self.assertEqual(row.threads(), tuple("abbccc"))


class Back(unittest.TestCase):
    def test_the_least_of_all(self):
        for row in ROWS:
            for step in (*steps_for(row), 4, 5, 6, 7, -3, -5):
                wanted = next((number for number in range(1, len(row) + 1) if gives_back(row, step, number)), None)
                told = step_back(row, step)
                self.assertEqual(told, wanted, (str(row), step))
                self.assertNotIsInstance(told, bool)

    def test_taken_so_again_it_is_alike(self):
        for row in ROWS + [LONG]:
            for step in steps_for(row):
                told = step_back(row, step)
                backs = [number for number in range(1, len(row) + 1) if each(each(row, step), number).alike(row)]
                self.assertEqual(told, backs[0] if backs else None)

    def test_known(self):
        seven = read_row("a1 b1 c1 d1 e1 f1 g1")
        for step, number in ((1, 1), (2, 4), (3, 5), (4, 2), (5, 3), (6, 6), (8, 1), (-1, 6), (-2, 3), (-6, 1), (7, None), (-14, None)):
            self.assertEqual(step_back(seven, step), number, step)
        six = read_row("a1 b1 c1 d1 e1 f1")
        for step, number in ((1, 1), (2, None), (3, None), (4, None), (5, 5), (6, None), (-1, 5), (7, 1)):
            self.assertEqual(step_back(six, step), number, step)

    def test_a_lesser_one_where_the_row_is_its_own_mirror(self):
        # At 1 and 4, and at 2 and 3, the same: taken by 4 it stays.
        row = read_row("a1 b1 c2 b1")
        self.assertEqual(step_back(row, 4), 1)
        self.assertEqual(step_back(row, -1), 1)
        self.assertEqual(step_back(row, 2), 2)
        self.assertEqual(step_back(row, 3), 2)

    def test_alike_not_only_one(self):
        # Moved by one it is its own mirror, but not as it lies.
        row = read_row("b1 w2 r1 w2 run 1")
        self.assertTrue(each(row, -1) == row)
        self.assertFalse(each(row, -1).alike(row))
        self.assertEqual(step_back(row, -1), 5)

    def test_of_one_thread(self):
        for step in (1, -1, 2, *FAR_STEPS):
            self.assertEqual(step_back(read_row("b5"), step), 1)

    def test_far(self):
        self.assertEqual(step_back(LONG, BIG - 9), pow(BIG - 9, -1, 240))
        self.assertEqual(step_back(LONG, 9 - BIG), pow(9 - BIG, -1, 240))
        self.assertIsNone(step_back(LONG, BIG))
        self.assertIsNone(step_back(LONG, -BIG))

    def test_by_names(self):
        self.assertEqual(step_back(step=2, row=read_row("a1 b1 c1")), 2)


class Refusals(unittest.TestCase):
    def test_no_step(self):
        for thing in NO_SPOTS + (0,):
            for deed in (each, step_back):
                for row in (ROWS[0], LONG):
                    with self.assertRaises(NoStep) as caught:
                        deed(row, thing)
                    self.assertIs(caught.exception.step, thing)
                    self.assertIsInstance(caught.exception, ZeroDivisionError)


if __name__ == "__main__":
    unittest.main()
