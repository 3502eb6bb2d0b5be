"""[19], [20], [22], [2] Cloths."""

import unittest

from things import BIG, NO_SPOTS, NO_TEXTS

from stripelay.cloths import Cloth
from stripelay.errors import NoSpot, NoWay
from stripelay.rows import Row

WARP = Row((("a", 1), ("b", 2), ("c", 3)), "run", 1)
WEFT = Row((("d", 2), ("e", 1), ("f", 1)), "run", -1)
CLOTH = Cloth(WARP, WEFT)
# For each way what is the pair of the turned cloth at (x, y).
WAYS = {
    "stay": lambda x, y: (WARP.at(x), WEFT.at(y)),
    "mirror": lambda x, y: (WARP.at(-x), WEFT.at(y)),
    "flip": lambda x, y: (WARP.at(x), WEFT.at(-y)),
    "half": lambda x, y: (WARP.at(-x), WEFT.at(-y)),
    "swap": lambda x, y: (WEFT.at(x), WARP.at(y)),
    "right": lambda x, y: (WEFT.at(-x), WARP.at(y)),
    "left": lambda x, y: (WEFT.at(x), WARP.at(-y)),
    "cross": lambda x, y: (WEFT.at(-x), WARP.at(-y)),
}
SPOTS = (*range(-7, 8), BIG, -BIG, 10 ** 29 + 3)


class Told(unittest.TestCase):
    def test_its_rows(self):
        self.assertTrue(CLOTH.warp_row().alike(WARP))
        self.assertTrue(CLOTH.weft_row().alike(WEFT))
        named = Cloth(weft=WEFT, warp=WARP)
        self.assertTrue(named.warp_row().alike(WARP))
        self.assertTrue(named.weft_row().alike(WEFT))

    def test_pair(self):
        for x in SPOTS:
            for y in SPOTS:
                self.assertEqual(CLOTH.pair(x, y), (WARP.at(x), WEFT.at(y)))
        self.assertIsInstance(CLOTH.pair(0, 0), tuple)
        self.assertEqual(CLOTH.pair(y=1, x=0), ("b", "d"))

    def test_no_spot_of_x_then_of_y(self):
        for thing in NO_SPOTS:
            for x, y in ((thing, 0), (0, thing), (thing, BIG + 1)):
                with self.assertRaises(NoSpot) as caught:
                    CLOTH.pair(x, y)
                self.assertIs(caught.exception.spot, thing)


class Sameness(unittest.TestCase):
    def test_one(self):
        for other in (CLOTH, Cloth(WARP, WEFT), Cloth(WARP.moved(5), WEFT), Cloth(WARP, WEFT.moved(-BIG)),
                      Cloth(WARP.moved(1), WEFT.moved(2)), CLOTH.turned("swap").turned("swap")):
            self.assertIs(CLOTH == other, True)
            self.assertIs(CLOTH != other, False)

    def test_not_one(self):
        for other in (Cloth(WEFT, WARP), Cloth(WARP.turned(), WEFT), Cloth(WARP, WEFT.turned()), Cloth(WARP, WARP),
                      Cloth(WEFT, WEFT), Cloth(Row((("a", 1),)), WEFT), Cloth(WARP, Row((("d", 1),)))):
            self.assertIs(CLOTH == other, False)
            self.assertIs(CLOTH != other, True)

    def test_no_cloth(self):
        for thing in NO_TEXTS + (WARP, (WARP, WEFT), [WARP, WEFT], str(CLOTH), repr(CLOTH)):
            self.assertIs(CLOTH == thing, False)
            self.assertIs(thing == CLOTH, False)
            self.assertIs(CLOTH != thing, True)


class Texts(unittest.TestCase):
    def test_str(self):
        self.assertEqual(str(CLOTH), "warp a1 b2 c3\nweft d2 e1 f1")
        self.assertEqual(str(Cloth(WEFT, WARP)), "warp d2 e1 f1\nweft a1 b2 c3")

    def test_repr(self):
        self.assertEqual(repr(CLOTH), "Cloth(Row((('b', 2), ('c', 3), ('a', 1))), Row((('f', 1), ('d', 2), ('e', 1))))")
        again = eval(repr(CLOTH), {"Cloth": Cloth, "Row": Row})
        self.assertTrue(again.warp_row().alike(WARP) and again.weft_row().alike(WEFT))


class Ways(unittest.TestCase):
    def test_each_way_at_each_spot(self):
        for way, wanted in WAYS.items():
            turned = CLOTH.turned(way)
            self.assertIsInstance(turned, Cloth)
            for x in SPOTS:
                for y in SPOTS:
                    self.assertEqual(turned.pair(x, y), wanted(x, y), way)

    def test_the_cloth_itself_stays(self):
        cloth = Cloth(WARP, WEFT)
        for way in WAYS:
            cloth.turned(way=way)
            self.assertTrue(cloth.warp_row().alike(WARP))
            self.assertTrue(cloth.weft_row().alike(WEFT))

    def test_no_way(self):
        for thing in NO_TEXTS + ("", "Stay", "stay ", "turn", "run", "stay\n", WARP, CLOTH):
            with self.assertRaises(NoWay) as caught:
                CLOTH.turned(thing)
            self.assertIs(caught.exception.way, thing)


if __name__ == "__main__":
    unittest.main()
