"""[21], [22], [2], [3] What is seen of a cloth."""

import unittest

from things import BIG, NO_SHADES, NO_SPOTS, NO_TEXTS

from stripelay.cloths import Cloth
from stripelay.clothtexts import read_cloth
from stripelay.errors import NoBox, NoShade, NoSpot, NoWeave
from stripelay.rowtexts import read_row
from stripelay.weaves import all_seen, seen, top

WEAVES = {
    "plain": lambda x, y: (x + y) % 2 == 0,
    "twill": lambda x, y: (x + y) % 4 in (0, 1),
    "basket": lambda x, y: (x % 4 in (0, 1)) is (y % 4 in (0, 1)),
}
CLOTHS = [read_cloth(text) for text in (
    "warp b8 w2\nweft r3 g1", "warp a1 b2 c3 run 1\nweft d2 e1 f1 run -1", "warp b1 w1\nweft w1 b1", "warp a1\nweft b1",
    "warp a1\nweft a1", "warp a1 b1 c1 fold 2\nweft b3 a1 c1 left 5", "warp b1 w2\nweft b2 w3", "warp ab1 a1 abc1\nweft b1 ab1",
)]
CLOTH = CLOTHS[0]
WRONG_WEAVES = NO_TEXTS + ("", "Plain", "plain ", " twill", "satin", "run", "stay", "plain\n", CLOTH)
SPOTS = (*range(-9, 10), BIG, BIG - 1, BIG - 2, BIG - 3, -BIG, 1 - BIG, 2 - BIG, 3 - BIG, 10 ** 29 + 7)
NO_BOXES = NO_TEXTS + (
    "", "0 0 1 1", (0,), (0, 0), (0, 0, 1), (0, 0, 1, 1, 1), [0, 0, 1, 1], {0: 0, 1: 0, 2: 1, 3: 1}, ((0, 0), (1, 1)),
    (0, 0, -1, 0), (0, 0, 0, -1), (5, 5, 4, 9), (5, 5, 9, 4), (BIG, 0, -BIG, 0), (0, BIG, 0, -BIG), (0, 1, 1, 0), (1, 0, 0, 1),
    *((0,) * place + (thing,) + (0,) * (3 - place) for place in range(4) for thing in NO_SPOTS),
    (-BIG - 1, 0, 0, 0), (0, -BIG - 1, 0, 0), (0, 0, BIG + 1, 0), (0, 0, 0, BIG + 1), (False, False, True, True),
)


def on_top(cloth, x, y, weave):
    warp, weft = cloth.pair(x, y)
    return warp if WEAVES[weave](x, y) else weft


def counted(cloth, box, weave):
    many = {}
    for x in range(box[0], box[2] + 1):
        for y in range(box[1], box[3] + 1):
            shade = on_top(cloth, x, y, weave)
            many[shade] = many.get(shade, 0) + 1
    return many


class Top(unittest.TestCase):
    def test_each_weave_near_and_far(self):
        for cloth in CLOTHS:
            for weave in WEAVES:
                for x in SPOTS:
                    for y in SPOTS:
                        self.assertEqual(top(cloth, x, y, weave), on_top(cloth, x, y, weave), (x, y, weave))

    def test_known(self):
        cloth = read_cloth("warp u1\nweft o1")
        for weave, lines in (("plain", ("uouo", "ouou", "uouo", "ouou")), ("twill", ("uuoo", "uoou", "oouu", "ouuo")),
                             ("basket", ("uuoo", "uuoo", "oouu", "oouu"))):
            for y in range(-8, 8):
                self.assertEqual("".join(top(cloth, x, y, weave) for x in range(4)), lines[y % 4], (weave, y))

    def test_by_default_plain_and_by_names(self):
        for x in range(5):
            for y in range(5):
                self.assertEqual(top(CLOTH, x, y), top(CLOTH, x, y, "plain"))
                self.assertEqual(top(weave="twill", y=y, x=x, cloth=CLOTH), top(CLOTH, x, y, "twill"))
                self.assertEqual(top(y=y, x=x, cloth=CLOTH), top(CLOTH, x, y))

    def test_no_spot_of_x_then_of_y(self):
        for thing in NO_SPOTS:
            for x, y, weave in ((thing, 0, "plain"), (0, thing, "plain"), (thing, BIG + 1, "plain"), (thing, 0, "satin"),
                                (0, thing, "satin"), (thing, "0", None)):
                with self.assertRaises(NoSpot) as caught:
                    top(CLOTH, x, y, weave)
                self.assertIs(caught.exception.spot, thing)

    def test_no_weave(self):
        for thing in WRONG_WEAVES:
            with self.assertRaises(NoWeave) as caught:
                top(CLOTH, 0, 0, thing)
            self.assertIs(caught.exception.weave, thing)


class Seen(unittest.TestCase):
    def check(self, cloth, box, weave):
        many = counted(cloth, box, weave)
        for shade in {*cloth.warp_row().shades(), *cloth.weft_row().shades(), "zz"}:
            self.assertEqual(seen(cloth, shade, box, weave), many.get(shade, 0), (str(cloth), shade, box, weave))
        self.assertEqual(all_seen(cloth, box, weave), sorted(many.items(), key=lambda pair: (-pair[1], pair[0])))

    def test_one_spot(self):
        for cloth in CLOTHS:
            for weave in WEAVES:
                for x in (-5, -1, 0, 1, 2, 3, 6, BIG, -BIG):
                    for y in (-3, -2, 0, 1, 2, 3, 7, BIG, -BIG):
                        self.check(cloth, (x, y, x, y), weave)

    def test_small_boxes_spot_by_spot(self):
        for cloth in CLOTHS:
            for weave in WEAVES:
                for x, y in ((0, 0), (-7, 3), (5, -6), (2, 1)):
                    for wide in (0, 1, 2, 3, 4, 6, 13):
                        for high in (0, 1, 2, 5, 8, 11):
                            self.check(cloth, (x, y, x + wide, y + high), weave)

    def test_small_boxes_far_away(self):
        for cloth in CLOTHS:
            for weave in WEAVES:
                for x in (BIG - 9, -BIG, 10 ** 29 + 7):
                    for y in (BIG - 7, -BIG, -10 ** 29 - 8):
                        self.check(cloth, (x, y, x + 9, y + 7), weave)

    def test_wide_boxes_put_together(self):
        # A box is two halves, be it cut by X or by Y, and whole rounds are many times one.
        for cloth in CLOTHS:
            wide = 4 * len(cloth.warp_row())
            high = 4 * len(cloth.weft_row())
            for weave in WEAVES:
                for shade in cloth.warp_row().shades() + cloth.weft_row().shades():
                    whole = seen(cloth, shade, (-BIG, -BIG, BIG, BIG), weave)
                    self.assertEqual(whole, seen(cloth, shade, (-BIG, -BIG, 7, BIG), weave) + seen(cloth, shade, (8, -BIG, BIG, BIG), weave))
                    self.assertEqual(whole, seen(cloth, shade, (-BIG, -BIG, BIG, -9), weave) + seen(cloth, shade, (-BIG, -8, BIG, BIG), weave))
                    one = counted(cloth, (0, 0, wide - 1, high - 1), weave).get(shade, 0)
                    self.assertEqual(seen(cloth, shade, (0, 0, wide * 10 ** 25 - 1, high * 10 ** 27 - 1), weave), one * 10 ** 52)
                    self.assertEqual(seen(cloth, shade, (-wide * 10 ** 25, 0, -1, high - 1), weave), one * 10 ** 25)

    def test_from_big_to_big(self):
        cloth = read_cloth("warp u1\nweft o1")
        box = (-BIG, -BIG, BIG, BIG)
        # BIG has the rest 0 by 4: both ways there are 2 * BIG + 1 spots, one with the rest 0 more than of each other.
        side = 2 * BIG + 1
        self.assertEqual(all_seen(cloth, box, "plain"), [("u", (side * side + 1) // 2), ("o", (side * side - 1) // 2)])
        self.assertEqual(all_seen(cloth, box, "twill"), [("u", (side * side + 1) // 2), ("o", (side * side - 1) // 2)])
        self.assertEqual(all_seen(cloth, box, "basket"), [("u", (BIG + 1) ** 2 + BIG ** 2), ("o", 2 * BIG * (BIG + 1))])
        self.assertEqual(seen(cloth, "u", (0, 0, BIG, 0), "plain"), BIG // 2 + 1)
        self.assertEqual(seen(cloth, "o", (0, -BIG, 0, BIG), "twill"), BIG)

    def test_all_spots_are_seen(self):
        for cloth in CLOTHS:
            for weave in WEAVES:
                for box in ((-BIG, -BIG, BIG, BIG), (-5, 3, 10 ** 29, 10 ** 28), (BIG, -BIG, BIG, 0)):
                    told = all_seen(cloth, box, weave)
                    self.assertEqual(sum(many for shade, many in told), (box[2] - box[0] + 1) * (box[3] - box[1] + 1))

    def test_long_rows_of_many_shades(self):
        letters = "abcdefghijklmnopqrstuvwxyz"
        shades = [one + two for one in letters for two in letters]
        warp = read_row(" ".join(f"{shade}1" for shade in shades[:239]))
        weft = read_row(" ".join(f"{shade}1" for shade in shades[200:440]))
        cloth = Cloth(warp, weft)
        for weave in WEAVES:
            many = counted(cloth, (-3, 7, 250, 260), weave)
            self.assertEqual(dict(all_seen(cloth, (-3, 7, 250, 260), weave)), many)

    def test_a_shade_that_the_cloth_has_not(self):
        for shade in ("z", "bw", "zzz"):
            self.assertEqual(seen(CLOTH, shade, (-BIG, -BIG, BIG, BIG)), 0)
            self.assertEqual(seen(CLOTH, shade, (0, 0, 0, 0), "basket"), 0)

    def test_by_default_plain_and_by_names(self):
        box = (0, 0, 3, 2)
        self.assertNotEqual(seen(CLOTH, "b", box), seen(CLOTH, "b", (0, 0, 2, 2), "basket"))
        self.assertEqual(seen(CLOTH, "b", box), seen(CLOTH, "b", box, "plain"))
        self.assertEqual(seen(box=(0, 0, 2, 2), weave="basket", shade="b", cloth=CLOTH), 5)
        self.assertEqual(seen(box=(0, 0, 2, 2), shade="r", cloth=CLOTH), 4)
        self.assertEqual(all_seen(box=(0, 0, 2, 2), cloth=CLOTH), [("b", 5), ("r", 4)])
        self.assertEqual(all_seen(weave="twill", box=(0, 0, 0, 2), cloth=CLOTH), [("b", 2), ("r", 1)])


class AllSeen(unittest.TestCase):
    def test_the_most_first_of_as_many_by_shades(self):
        cloth = read_cloth("warp c1 a1\nweft b1 ab1")
        self.assertEqual(all_seen(cloth, (0, 0, 1, 1)), [("a", 1), ("ab", 1), ("b", 1), ("c", 1)])
        self.assertEqual(all_seen(cloth, (0, 0, 2, 0)), [("c", 2), ("b", 1)])
        self.assertEqual(all_seen(read_cloth("warp b1\nweft a1"), (0, 0, 1, 0)), [("a", 1), ("b", 1)])

    def test_none_with_nought(self):
        self.assertEqual(all_seen(CLOTH, (0, 0, 0, 0)), [("b", 1)])
        self.assertEqual(all_seen(CLOTH, (1, 0, 1, 0)), [("r", 1)])

    def test_a_shade_of_both_rows_stands_once(self):
        cloth = read_cloth("warp b1 w1\nweft w1 b1")
        self.assertEqual(all_seen(cloth, (0, 0, 1, 1)), [("b", 2), ("w", 2)])
        self.assertEqual(all_seen(cloth, (0, 0, 0, 2)), [("b", 3)])
        self.assertEqual(all_seen(read_cloth("warp a1\nweft a1"), (-BIG, 0, BIG, 0), "twill"), [("a", 2 * BIG + 1)])

    def test_a_new_list_each_time(self):
        told = all_seen(CLOTH, (0, 0, 9, 9))
        self.assertIs(type(told), list)
        self.assertTrue(all(type(pair) is tuple for pair in told))
        wanted = list(told)
        told.clear()
        told.append(("zz", 1))
        self.assertEqual(all_seen(CLOTH, (0, 0, 9, 9)), wanted)


class Refusals(unittest.TestCase):
    def test_no_shade(self):
        for thing in NO_SHADES:
            for box, weave in (((0, 0, 1, 1), "plain"), (None, "plain"), (None, None)):
                with self.assertRaises(NoShade) as caught:
                    seen(CLOTH, thing, box, weave)
                self.assertIs(caught.exception.shade, thing)

    def test_no_box(self):
        for thing in NO_BOXES:
            for deed in (lambda: seen(CLOTH, "b", thing), lambda: all_seen(CLOTH, thing), lambda: seen(CLOTH, "zz", thing, "satin"),
                         lambda: all_seen(CLOTH, thing, None)):
                with self.assertRaises(NoBox, msg=thing):
                    deed()

    def test_no_weave(self):
        for thing in WRONG_WEAVES:
            for deed in (lambda: seen(CLOTH, "b", (0, 0, 1, 1), thing), lambda: all_seen(CLOTH, (0, 0, 1, 1), thing),
                         lambda: seen(CLOTH, "zz", (0, 0, 1, 1), thing)):
                with self.assertRaises(NoWeave) as caught:
                    deed()
                self.assertIs(caught.exception.weave, thing)

    def test_the_cloth_stays(self):
        cloth = Cloth(read_row("b8 w2"), read_row("r3 g1"))
        top(cloth, 5, 5, "twill")
        seen(cloth, "b", (0, 0, BIG, BIG))
        all_seen(cloth, (0, 0, BIG, BIG), "basket")
        with self.assertRaises(NoBox):
            seen(cloth, "b", None)
        self.assertEqual(str(cloth), "warp b8 w2\nweft g1 r3")
        self.assertEqual(cloth.weft_row().threads(), ("r", "r", "r", "g"))


if __name__ == "__main__":
    unittest.main()
