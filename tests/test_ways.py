"""[20], [2], [3] The ways that turn a cloth."""

import unittest

from things import NO_TEXTS

from stripelay.cloths import Cloth
from stripelay.clothtexts import read_cloth
from stripelay.errors import NoWay
from stripelay.rowtexts import read_row
from stripelay.ways import behind, ways_between

WAYS = ("stay", "mirror", "flip", "half", "swap", "right", "left", "cross")
WRONG_WAYS = NO_TEXTS + ("", "Stay", "stay ", " stay", "turn", "run", "stay\n", "mirrors", "s", "stay mirror")
# Neither row is its own mirror, nor one with the other or the other turned: no two ways turn it alike.
CLOTH = Cloth(read_row("a1 b2 c3 run 1"), read_row("d2 e1 f1 run -1"))


def rows_of(cloth):
    return (cloth.warp_row().threads(), cloth.weft_row().threads())


class Behind(unittest.TestCase):
    def test_all_pairs_by_what_turning_does(self):
        by_rows = {rows_of(CLOTH.turned(way)): way for way in WAYS}
        self.assertEqual(len(by_rows), 8)
        for way in WAYS:
            for other in WAYS:
                self.assertEqual(behind(way, other), by_rows[rows_of(CLOTH.turned(way).turned(other))], (way, other))

    def test_known(self):
        for way, other, wanted in (("mirror", "flip", "half"), ("swap", "mirror", "right"), ("swap", "flip", "left"),
                                   ("swap", "half", "cross"), ("mirror", "swap", "left"), ("flip", "swap", "right"),
                                   ("right", "right", "half"), ("left", "left", "half"), ("right", "left", "stay"),
                                   ("left", "right", "stay"), ("cross", "cross", "stay"), ("swap", "cross", "half"),
                                   ("mirror", "right", "cross"), ("right", "mirror", "swap")):
            self.assertEqual(behind(way, other), wanted, (way, other))

    def test_stay_ahead_and_behind(self):
        for way in WAYS:
            self.assertEqual((behind("stay", way), behind(way, "stay")), (way, way))

    def test_three_behind_one_another(self):
        for way in WAYS:
            for other in WAYS:
                for third in WAYS:
                    self.assertEqual(behind(behind(way, other), third), behind(way, behind(other, third)))

    def test_by_names(self):
        self.assertEqual(behind(other="swap", way="mirror"), "left")
        self.assertEqual(behind(way="swap", other="mirror"), "right")

    def test_no_way_of_the_first_then_of_the_other(self):
        for thing in WRONG_WAYS:
            for way, other in ((thing, "stay"), ("stay", thing), (thing, "no way"), (thing, None)):
                with self.assertRaises(NoWay) as caught:
                    behind(way, other)
                self.assertIs(caught.exception.way, thing)


class Turned(unittest.TestCase):
    def test_each_way_by_its_rows(self):
        warp, weft = CLOTH.warp_row(), CLOTH.weft_row()
        wanted = {
            "stay": (warp, weft), "mirror": (warp.turned(), weft), "flip": (warp, weft.turned()),
            "half": (warp.turned(), weft.turned()), "swap": (weft, warp), "right": (weft.turned(), warp),
            "left": (weft, warp.turned()), "cross": (weft.turned(), warp.turned()),
        }
        for way in WAYS:
            self.assertEqual(rows_of(CLOTH.turned(way)), tuple(row.threads() for row in wanted[way]), way)
            self.assertEqual(rows_of(CLOTH.turned(way=way)), rows_of(CLOTH.turned(way)))

    def test_no_way(self):
        for thing in WRONG_WAYS:
            with self.assertRaises(NoWay) as caught:
                CLOTH.turned(thing)
            self.assertIs(caught.exception.way, thing)


class Between(unittest.TestCase):
    def test_one_way(self):
        for way in WAYS:
            self.assertEqual(ways_between(CLOTH, CLOTH.turned(way)), (way,))
            moved = Cloth(CLOTH.turned(way).warp_row().moved(5), CLOTH.turned(way).weft_row().moved(-3))
            self.assertEqual(ways_between(CLOTH, moved), (way,))

    def test_back_again(self):
        for way in WAYS:
            back, = ways_between(CLOTH.turned(way), CLOTH)
            self.assertEqual(behind(way, back), "stay")

    def test_none(self):
        for text in ("warp a1\nweft d2 e1 f1", "warp a1 b2 c3\nweft d1 e1 f2 g1", "warp a1 b2 c3\nweft a1 b2 c3",
                     "warp d2 e1 f1\nweft d2 e1 f1", "warp a1 b2 c4\nweft d2 e1 f1"):
            self.assertEqual(ways_between(CLOTH, read_cloth(text)), ())
            self.assertEqual(ways_between(read_cloth(text), CLOTH), ())

    def test_several(self):
        for text, wanted in (("warp b8 w2\nweft d2 e1 f1", ("stay", "mirror")), ("warp a1 b2 c3\nweft b8 w2", ("stay", "flip")),
                             ("warp b8 w2\nweft r3 g1", ("stay", "mirror", "flip", "half")),
                             ("warp a1 b2 c3\nweft a1 b2 c3", ("stay", "swap")),
                             ("warp a1 b2 c3\nweft c3 b2 a1", ("stay", "cross")),
                             ("warp b8 w2\nweft b8 w2", WAYS), ("warp a1\nweft a1", WAYS)):
            cloth = read_cloth(text)
            self.assertEqual(ways_between(cloth, cloth), wanted, text)
        twins, mirrored = read_cloth("warp a1 b2 c3\nweft a1 b2 c3"), read_cloth("warp a1 b2 c3\nweft c3 b2 a1")
        self.assertEqual(ways_between(twins, mirrored), ("flip", "left"))
        self.assertEqual(ways_between(mirrored, twins), ("flip", "right"))
        self.assertEqual(ways_between(twins, mirrored.turned("swap")), ("mirror", "right"))
        self.assertEqual(ways_between(read_cloth("warp b8 w2\nweft r3 g1"), read_cloth("warp g1 r3\nweft w2 b8")),
                         ("swap", "right", "left", "cross"))

    def test_just_those_that_make_them_one(self):
        texts = ("a1", "b1 a1", "a1 b2 c3", "c3 b2 a1", "a1 b1 c1", "b8 w2")
        cloths = [Cloth(read_row(warp), read_row(weft)) for warp in texts for weft in texts]
        for cloth in cloths:
            for other in cloths[::3]:
                self.assertEqual(ways_between(cloth, other), tuple(way for way in WAYS if cloth.turned(way) == other))

    def test_by_names_and_new(self):
        other = CLOTH.turned("right")
        self.assertEqual(ways_between(other=other, cloth=CLOTH), ("right",))
        self.assertIs(type(ways_between(CLOTH, other)), tuple)

    def test_both_stay(self):
        cloth, other = Cloth(CLOTH.warp_row(), CLOTH.weft_row()), CLOTH.turned("left")
        before = (rows_of(cloth), rows_of(other))
        ways_between(cloth, other)
        self.assertEqual((rows_of(cloth), rows_of(other)), before)


if __name__ == "__main__":
    unittest.main()
