"""[24], [2], [3] Patterns of rows."""

import itertools
import unittest

from things import BIG

from stripelay.dyes import dyed
from stripelay.patterns import one_pattern, pattern
from stripelay.rows import Row
from stripelay.rowtexts import read_row
from stripelay.stripes import stripes_of

ROWS = [Row(stripes_of(threads)) for many in range(1, 6) for threads in itertools.product("abc", repeat=many)]
ROWS += [read_row(text) for text in ("a1 b2 c3 b1 run 3", "abc1 b2 w1 fold 2", "r7", "w1 r1 b1 a1", "b8 w2")]
MANY = [one + two for one in "zyxw" for two in "abcdefgh"]


def from_spot(row, spot):
    """The numbers of a round's threads from a spot on."""
    threads = [row.at(spot + further) for further in range(len(row))]
    first = []
    for shade in threads:
        if shade not in first:
            first.append(shade)
    return tuple(first.index(shade) for shade in threads)


def made_one(row, other):
    """Whether some one-to-one change of shades makes the rows one: tried one by one."""
    if len(row.shades()) != len(other.shades()):
        return False
    changes = [dict(zip(row.shades(), told)) for told in itertools.permutations(other.shades())]
    return any(dyed(row, lambda shade: change[shade]) == other for change in changes)


class Pattern(unittest.TestCase):
    def test_the_least_over_all_spots(self):
        for row in ROWS:
            self.assertEqual(pattern(row), min(from_spot(row, spot) for spot in range(len(row))))

    def test_known(self):
        for text, wanted in (("b5", (0,)), ("b1 w1", (0, 1)), ("w1 b1", (0, 1)), ("b8 w2", (0,) * 8 + (1,) * 2),
                             ("w2 b8", (0,) * 8 + (1,) * 2), ("a1 b2 c3", (0, 0, 0, 1, 2, 2)), ("c3 b2 a1", (0, 0, 0, 1, 1, 2)),
                             ("a1 b1 a1 c1", (0, 1, 0, 2)), ("a1 b1 c1 b2", (0, 0, 1, 0, 2))):
            self.assertEqual(pattern(read_row(text)), wanted, text)

    def test_a_tuple_of_whole_numbers(self):
        for row in ROWS:
            told = pattern(row)
            self.assertIs(type(told), tuple)
            self.assertEqual({type(number) for number in told}, {int})
            self.assertEqual(len(told), len(row))

    def test_more_than_ten_shades(self):
        row = read_row(" ".join(f"{shade}1" for shade in MANY))
        self.assertEqual(pattern(row), tuple(range(32)))
        # Numbers are put in order as such, not as texts: 2 is less than 10.
        other = Row(stripes_of(tuple(MANY[:12]) + (MANY[2],)))
        self.assertEqual(pattern(other), min(from_spot(other, spot) for spot in range(13)))
        self.assertEqual(pattern(Row(stripes_of(tuple(MANY[:12]) + (MANY[10],)))), (0, 1, 0, *range(2, 12)))

    def test_moved(self):
        for row in ROWS:
            for by in (1, 3, -2, BIG):
                self.assertEqual(pattern(row.moved(by)), pattern(row))

    def test_long(self):
        row = Row(stripes_of(("b",) * 100 + ("w",) * 39 + ("r",) * 100 + ("g",)), "run", 77)
        self.assertEqual(pattern(row), (0,) * 100 + (1,) * 39 + (2,) * 100 + (3,))

    def test_by_name_and_the_row_stays(self):
        row = read_row("b1 a2 run 1")
        self.assertEqual(pattern(row=row), (0, 0, 1))
        self.assertEqual(row.threads(), ("a", "a", "b"))


class OnePattern(unittest.TestCase):
    def test_just_where_one_to_one_changes_make_them_one(self):
        rows = ROWS[::5] + ROWS[-5:]
        for row in rows:
            for other in rows:
                told = one_pattern(row, other)
                self.assertIs(told, made_one(row, other), (str(row), str(other)))
                self.assertIs(told, pattern(row) == pattern(other))

    def test_changed_one_to_one_and_moved(self):
        change = {"a": "zz", "b": "a", "c": "b", "abc": "c", "w": "abc", "r": "w"}
        for row in ROWS:
            other = dyed(row, lambda shade: change[shade]).moved(5)
            self.assertIs(one_pattern(row, other), True)
            self.assertIs(one_pattern(other, row), True)

    def test_two_shades_made_one(self):
        for text, other in (("a1 b1 a1 c1", "a1 b1"), ("a1 b2 c3", "a1 b2 a3"), ("a1 b2 c3", "a1 b5"), ("a1 b1 c1", "a1 b2"), ("a1 b1", "c1")):
            self.assertIs(one_pattern(read_row(text), read_row(other)), False)
            self.assertIs(one_pattern(read_row(other), read_row(text)), False)

    def test_turned(self):
        self.assertIs(one_pattern(read_row("a1 b2 c3"), read_row("a1 b2 c3").turned()), False)
        self.assertIs(one_pattern(read_row("b8 w2"), read_row("b8 w2").turned()), True)
        self.assertIs(one_pattern(read_row("a1 b1 c1 d1"), read_row("a1 b1 c1 d1").turned()), True)

    def test_by_names(self):
        self.assertIs(one_pattern(other=read_row("w2 b8"), row=read_row("b2 w8")), True)


if __name__ == "__main__":
    unittest.main()
