"""[8], [22] Texts of cloths."""

import unittest

from things import BIG, NO_TEXTS

from stripelay.cloths import Cloth
from stripelay.clothtexts import read_cloth, show_cloth
from stripelay.errors import NoText
from stripelay.rows import Row

# Each with the line and the word that NoText tells.
WRONG_TEXTS = (
    ("", 0, None), ("\n", 0, None), ("b8", 0, None), ("b8\nw2", 0, None), ("weft b8", 0, None), ("weft b8\nwarp w2", 0, None),
    ("Warp b8\nweft w2", 0, None), (" warp b8\nweft w2", 0, None), ("warpb8\nweft w2", 0, None), ("wa b8\nweft w2", 0, None),
    ("\nwarp b8\nweft w2", 0, None), ("warps b8\nweft w2", 0, None), ("warp1 b8\nweft w2", 0, None), ("weft b8\nweft w2", 0, None),
    ("warp\nweft w2", 0, 0), ("warp", 0, 0), ("warp ", 0, 0), ("warp \nweft w2", 0, 0), ("warp  b8\nweft w2", 0, 0),
    ("warp b0\nweft w2", 0, 0), ("warp run\nweft w2", 0, 0), ("warp b8 \nweft w2", 0, 1), ("warp b8 warp b8\nweft w2", 0, 1),
    ("warp b8 weft w2", 0, 1), ("warp b8 w2 5\nweft w2", 0, 2), (f"warp b8 run {BIG + 1}\nweft w2", 0, 2),
    ("warp b8 run -0\nweft w2", 0, 2), ("warp b8 run 1 x\nweft w2", 0, 3), ("warp b240 r1\nweft w2", 0, 1),
    ("warp b1 w120 fold\nweft w2", 0, 3), ("warp b1 w120 fold 2\nweft w2", 0, 4), ("warp b8\r\nweft w2", 0, 0),
    ("warp b8", 1, None), ("warp b8\n", 1, None), ("warp b8\n\nweft w2", 1, None), ("warp b8\nw2", 1, None),
    ("warp b8\nwarp w2", 1, None), ("warp b8\n weft w2", 1, None), ("warp b8\nWeft w2", 1, None), ("warp b8\nweftw2", 1, None),
    ("warp b8\nweft", 1, 0), ("warp b8\nweft ", 1, 0), ("warp b8\nweft W2", 1, 0), ("warp b8\nweft w2 ", 1, 1),
    ("warp b8\nweft w2 run x", 1, 2), ("warp b8\nweft b240 r1", 1, 1), ("warp b8\nweft b1 w120 fold", 1, 3),
    (f"warp b8\nweft w2 run {-BIG - 1}", 1, 2),
    ("warp b8\nweft w2\n", 2, None), ("warp b8\nweft w2\nweft w2", 2, None), ("warp b8\nweft w2\n\n", 2, None),
    ("warp b8\nweft w2\nx\ny", 2, None),
    # Where several lines can't stand, the first of them is told.
    ("warp B8\nweft W2", 0, 0), ("warp B8", 0, 0), ("warp b8 x\nwarp w2\nx", 0, 1), ("warp b8\nweft W2\nx", 1, 0),
    ("warp b8\nx\nweft w2", 1, None), ("warp b1 w120 fold\nx", 0, 3),
)


class Reading(unittest.TestCase):
    def refused(self, text):
        with self.assertRaises(NoText, msg=text) as caught:
            read_cloth(text)
        return caught.exception.line, caught.exception.word

    def test_both_lines(self):
        cloth = read_cloth("warp b8 w2 run 3\nweft a1 b1 c1 fold")
        self.assertIsInstance(cloth, Cloth)
        self.assertTrue(cloth.warp_row().alike(Row((("b", 8), ("w", 2)), "run", 3)))
        self.assertTrue(cloth.weft_row().alike(Row((("a", 1), ("b", 1), ("c", 1)), "fold")))
        self.assertEqual(read_cloth(text="warp b8\nweft w2").pair(0, 0), ("b", "w"))

    def test_big_starts(self):
        cloth = read_cloth(f"warp b1 w2 run {BIG}\nweft b1 w2 left {-BIG}")
        self.assertTrue(cloth.warp_row().alike(Row((("b", 1), ("w", 2)), "run", BIG)))
        self.assertTrue(cloth.weft_row().alike(Row((("b", 1), ("w", 2)), "left", -BIG)))

    def test_what_is_not_so_written(self):
        for text, line, word in WRONG_TEXTS:
            self.assertEqual(self.refused(text), (line, word), text)

    def test_no_text(self):
        for thing in NO_TEXTS + (("warp b8", "weft w2"), ["warp b8", "weft w2"]):
            self.assertEqual(self.refused(thing), (0, None))


class Writing(unittest.TestCase):
    def test_both_lines(self):
        cloth = Cloth(Row((("b", 8), ("w", 2)), "run", 9), Row((("a", 1), ("b", 1), ("c", 1)), "fold"))
        self.assertEqual(show_cloth(cloth), "warp w1 b8 w1\nweft a1 b1 c2 b1 a1")
        self.assertEqual(show_cloth(cloth=Cloth(Row((("w", 2),)), Row((("b", 2),)))), "warp w1\nweft b1")

    def test_read_again_its_rows_are_alike(self):
        for text in ("warp b8 w2\nweft r3 g1", "warp b8 w2 fold 3\nweft r3 g1 left -9", "warp a1\nweft a1"):
            cloth = read_cloth(text)
            again = read_cloth(show_cloth(cloth))
            self.assertTrue(again.warp_row().alike(cloth.warp_row()))
            self.assertTrue(again.weft_row().alike(cloth.weft_row()))


if __name__ == "__main__":
    unittest.main()
