"""[23], [2], [3] Rows dyed, and the fewest dyes between two rows."""

import itertools
import unittest

from things import BIG, NO_SHADES

from stripelay.dyes import dyed, fewest_dyes
from stripelay.errors import NoShade
from stripelay.rows import Row
from stripelay.rowtexts import read_row
from stripelay.stripes import stripes_of

ROWS = [Row(stripes_of(threads)) for many in range(1, 6) for threads in itertools.product("bw", repeat=many)]
ROWS += [read_row(text) for text in ("a1 b2 c3 b1 run 3", "abc1 b2 w1 fold 2", "r7", "a1 b1 c1 d1 e1 f1", "b1 w1 r1", "w1 r1 b1 a1")]
SPOTS = (*range(-12, 13), BIG, -BIG, 10 ** 29 + 7)


def exchanged(shade):
    return {"b": "w", "w": "b"}.get(shade, shade)


def all_dyes(row, other):
    """Each way to dye shades of the row, and each move, that make it alike the other: tried one by one."""
    goals = sorted(set(row.shades() + other.shades()))
    for told in itertools.product(goals, repeat=len(row.shades())):
        change = dict(zip(row.shades(), told))
        threads = tuple(change[shade] for shade in row.threads())
        for move in range(len(row)):
            if Row(stripes_of(threads), "run", -move).alike(other):
                yield tuple((shade, change[shade]) for shade in row.shades() if change[shade] != shade), move


class Dyed(unittest.TestCase):
    def check(self, row, deed):
        told = dyed(row, deed)
        self.assertIsInstance(told, Row)
        for spot in SPOTS:
            self.assertEqual(told.at(spot), deed(row.at(spot)))
        return told

    def test_spot_by_spot(self):
        for row in ROWS:
            self.check(row, exchanged)
            self.check(row, lambda shade: shade)
            self.check(row, lambda shade: "zz")
            self.check(row, lambda shade: "b" if shade < "c" else "abc")

    def test_leaves_all(self):
        for row in ROWS:
            self.assertTrue(dyed(row, lambda shade: shade).alike(row))

    def test_exchanges(self):
        self.assertEqual(dyed(read_row("b8 w2"), exchanged).threads(), ("w",) * 8 + ("b",) * 2)
        self.assertEqual(dyed(read_row("b1 w2 r1"), exchanged).threads(), ("w", "b", "b", "r"))

    def test_makes_two_one_and_the_round_less(self):
        self.assertEqual(dyed(read_row("a1 b1 a1 c1"), lambda shade: "b" if shade == "c" else shade).threads(), ("a", "b"))
        self.assertEqual(len(dyed(read_row("b239 w1"), lambda shade: "b")), 1)
        self.assertEqual(len(dyed(read_row("b239 w1"), exchanged)), 240)

    def test_by_names(self):
        self.assertEqual(dyed(deed=exchanged, row=read_row("b1 r1")).threads(), ("w", "r"))

    def test_asked_of_the_shades_of_the_row_alone(self):
        asked = []

        def deed(shade):
            asked.append(shade)
            return "b"

        dyed(read_row("c8 abc2 a1 c3"), deed)
        self.assertEqual(set(asked), {"a", "abc", "c"})
        self.assertLess(len(asked), 8)

    def test_no_shade(self):
        for thing in NO_SHADES:
            for deed in (lambda shade: thing, lambda shade: thing if shade == "w" else shade):
                with self.assertRaises(NoShade) as caught:
                    dyed(read_row("w8 b2"), deed)
                self.assertIs(caught.exception.shade, thing)

    def test_no_shade_of_the_least_shade(self):
        for told, wanted in (({"a": 1, "ab": 2, "b": 3}, 1), ({"a": "a", "ab": "B", "b": 3}, "B"), ({"a": "b", "ab": "b", "b": ""}, "")):
            with self.assertRaises(NoShade) as caught:
                dyed(read_row("b1 ab1 a1 ab1"), lambda shade: told[shade])
            self.assertEqual(caught.exception.shade, wanted)

    def test_the_row_stays(self):
        row = read_row("a1 b2 c3")
        dyed(row, lambda shade: "z")
        with self.assertRaises(NoShade):
            dyed(row, lambda shade: None)
        fewest_dyes(row, read_row("a1 b2 d3"))
        self.assertEqual(row.threads(), tuple("abbccc"))


class Fewest(unittest.TestCase):
    def test_against_all_dyes_and_moves(self):
        for row in ROWS:
            for other in ROWS:
                if len(row) * len(row.shades()) > 18:
                    continue
                best = min(all_dyes(row, other), key=lambda found: (len(found[0]), found[1]), default=None)
                self.assertEqual(fewest_dyes(row, other), best, (str(row), str(other)))

    def test_dyed_and_moved_it_is_alike(self):
        for row in ROWS:
            for other in ROWS:
                told = fewest_dyes(row, other)
                if told is None:
                    continue
                self.assertIs(type(told), tuple)
                dyes, move = told
                self.assertIs(type(dyes), tuple)
                change = dict(dyes)
                self.assertTrue(dyed(row, lambda shade: change.get(shade, shade)).moved(move).alike(other))
                self.assertEqual(sorted(change), [shade for shade, dye in dyes])
                self.assertEqual([pair for pair in dyes if pair[0] == pair[1] or pair[0] not in row.shades()], [])
                self.assertTrue(0 <= move < len(other))

    def test_one_already(self):
        row = read_row("a1 b2 c3 b1")
        for by in range(7):
            self.assertEqual(fewest_dyes(row, row.moved(by)), ((), by))
        self.assertEqual(fewest_dyes(row, row.moved(-BIG)), ((), -BIG % 7))
        self.assertEqual(fewest_dyes(read_row("b5"), read_row("b1")), ((), 0))

    def test_dyed_and_moved(self):
        row = read_row("a1 b2 c3 b1")
        self.assertEqual(fewest_dyes(row, read_row("a1 d2 c3 d1 run -3")), ((("b", "d"),), 3))
        self.assertEqual(fewest_dyes(row, read_row("c1 b2 a3 b1 run 2")), ((("a", "c"), ("c", "a")), 5))
        self.assertEqual(fewest_dyes(row, read_row("x1 y2 z3 y1")), ((("a", "x"), ("b", "y"), ("c", "z")), 0))

    def test_the_fewest_ahead_of_the_least_move(self):
        # By 0 both are dyed, by 1 neither.
        self.assertEqual(fewest_dyes(read_row("b1 w1"), read_row("w1 b1")), ((), 1))
        # By 0 and by 1 all three are, by 2 none.
        self.assertEqual(fewest_dyes(read_row("a1 b1 c1"), read_row("b1 c1 a1")), ((), 2))
        # By 0 all four are, by 1 c alone.
        self.assertEqual(fewest_dyes(read_row("a1 b1 c1 d1"), read_row("d1 a1 b1 x1")), ((("c", "x"),), 1))

    def test_the_least_move_of_the_fewest(self):
        self.assertEqual(fewest_dyes(read_row("a1 b1"), read_row("c1 d1")), ((("a", "c"), ("b", "d")), 0))
        self.assertEqual(fewest_dyes(read_row("a1 b1 c1 d1"), read_row("a1 b1")), ((("c", "a"), ("d", "b")), 0))
        self.assertEqual(fewest_dyes(read_row("a1 b1 c1 d1"), read_row("b1 a1")), ((("c", "a"), ("d", "b")), 1))

    def test_to_a_lesser_round(self):
        self.assertEqual(fewest_dyes(read_row("a1 b1 a1 c1"), read_row("a1 b1")), ((("c", "b"),), 0))
        self.assertEqual(fewest_dyes(read_row("a1 b1 a1 c1"), read_row("b1 a1")), ((("c", "b"),), 1))
        self.assertEqual(fewest_dyes(read_row("b239 w1"), read_row("w1")), ((("b", "w"),), 0))
        self.assertEqual(fewest_dyes(read_row("b239 w1"), read_row("r1")), ((("b", "r"), ("w", "r")), 0))

    def test_of_one_shade(self):
        self.assertEqual(fewest_dyes(read_row("b1"), read_row("w1")), ((("b", "w"),), 0))
        self.assertIsNone(fewest_dyes(read_row("b1"), read_row("b1 w1")))

    def test_none_do(self):
        for text, other in (("b1 w1", "a1 b1 c1"), ("a1 b1 c1", "a1 b1"), ("a1 b1", "a1 b1 a1 c1"), ("a2 b1", "a1 b1 c1"),
                            ("b2 w2", "b1 w3"), ("b2 w2", "b1 w1"), ("b3 w1 b1 w1", "b1 w2"), ("b240", "b239 w1"),
                            ("a1 b1 c1 d1", "a1 b1 c1 d1 e1"), ("a1 b1 c1 d1 e1 f1", "a1 b1 c1 d1")):
            self.assertIsNone(fewest_dyes(read_row(text), read_row(other)), (text, other))

    def test_long_rows(self):
        row = read_row("b100 w39 r100 g1")
        other = dyed(row, lambda shade: "zz" if shade == "r" else shade).moved(177)
        self.assertEqual(fewest_dyes(row, other), ((("r", "zz"),), 177))

    def test_by_names(self):
        self.assertEqual(fewest_dyes(other=read_row("w1"), row=read_row("b1")), ((("b", "w"),), 0))


if __name__ == "__main__":
    unittest.main()
