"""[8], [22], [3] Texts of rows."""

import unittest

from things import BIG, NO_TEXTS

from stripelay.errors import NoText, TooLong
from stripelay.rows import Row
from stripelay.rowtexts import read_row, show_row

# Each with the number of the first word that can't stand there or is wanting.
WRONG_TEXTS = (
    ("", 0), (" ", 0), ("  ", 0), ("b0", 0), ("b00", 0), ("b08", 0), ("b-8", 0), ("b+8", 0), ("-8", 0), ("8", 0), ("8b", 0),
    ("b", 0), ("b241", 0), ("b999999999999999999999999999999999999", 0), ("b" + "9" * 1900, 0), ("B8", 0), ("bW8", 0),
    ("abcd8", 0), ("b8w2", 0), ("b8,", 0), ("b 8", 0), ("b8.0", 0), ("b_8", 0), ("b1_0", 0), (" b8", 0), ("b8\n", 0), ("b8\nw2", 0),
    ("\nb8", 0), ("b8\tw2", 0), ("run", 0), ("run 3", 0), ("0", 0), ("~", 0), ("b\u0663", 0), ("b8\u00b2", 0),
    ("b8 ", 1), ("b8  w2", 1), ("b8 w0", 1), ("b8 w02", 1), ("b8 W2", 1), ("b8 wxyz2", 1), ("b8 5", 1), ("b8 -5", 1),
    ("b8 0", 1), ("b8 Run", 1), ("b8 turn", 1), ("b8 run\n", 1), ("b240 w1", 1), ("b240 w1 no", 1), ("b8 w233 B", 1),
    ("b100 w100 b40 w1", 3), ("b8 w2 run run", 3), ("b8 w2 5", 2), ("b8 w2 5 run", 2), ("b8 w2  run", 2),
    ("b8 run ", 2), ("b8 run w2", 2), ("b8 run +5", 2), ("b8 run 05", 2), ("b8 run -05", 2), ("b8 run -0", 2), ("b8 run 00", 2),
    ("b8 run --5", 2), ("b8 run -", 2), ("b8 run 5-", 2), ("b8 run 1.0", 2), ("b8 run 1_0", 2), ("b8 run x", 2), ("b8 run 5\n", 2),
    (f"b8 run {BIG + 1}", 2), (f"b8 run {-BIG - 1}", 2), ("b8 run " + "9" * 31, 2), ("b8 run " + "1" * 1900, 2),
    ("b8 run 5 ", 3), ("b8 run 5 6", 3), ("b8 run 5 w2", 3), ("b8 run 5 run", 3), ("b8 w2 fold -3 x y", 4), ("b8 run \u0665", 2),
)
# The number of all words.
LONG_TEXTS = (
    ("b1 w120 fold", 3), ("b1 w120 fold 7", 4), (f"b1 w120 fold {-BIG}", 4), ("b1 w120 left", 3), ("b1 w121 pivot", 3),
    ("b100 w99 b1 r40 right 5", 6),
)


class Reading(unittest.TestCase):
    def refused(self, text):
        with self.assertRaises(NoText, msg=text) as caught:
            read_row(text)
        self.assertEqual(caught.exception.line, 0)
        self.assertNotIsInstance(caught.exception.line, bool)
        return caught.exception.word

    def test_stripes_alone(self):
        self.assertTrue(read_row("b8 w2").alike(Row((("b", 8), ("w", 2)))))
        self.assertTrue(read_row(text="b8").alike(Row((("b", 8),))))
        self.assertTrue(read_row("b2 b3 w1").alike(Row((("b", 5), ("w", 1)))))
        self.assertEqual(read_row("b240").threads(), ("b",))
        self.assertEqual(len(read_row("b239 w1")), 240)
        self.assertEqual(len(read_row(" ".join(["b1"] * 239 + ["w1"]))), 240)
        self.assertIsInstance(read_row("b8"), Row)

    def test_manner_and_start(self):
        stripes = (("abc", 3), ("w", 10), ("b", 1))
        for manner in ("run", "pivot", "fold", "left", "right"):
            self.assertTrue(read_row(f"abc3 w10 b1 {manner}").alike(Row(stripes, manner)))
            for start in (0, 1, 7, 10, -1, -20, BIG, -BIG, 100):
                self.assertTrue(read_row(f"abc3 w10 b1 {manner} {start}").alike(Row(stripes, manner, start)), (manner, start))

    def test_a_shade_may_be_a_word_of_manners(self):
        self.assertEqual(read_row("run8 w2").shades(), ("run", "w"))
        self.assertTrue(read_row("run1 w2 run 1").alike(Row((("run", 1), ("w", 2)), "run", 1)))

    def test_what_is_not_so_written(self):
        for text, word in WRONG_TEXTS:
            self.assertEqual(self.refused(text), word, text)

    def test_too_long(self):
        for text, word in LONG_TEXTS:
            self.assertEqual(self.refused(text), word, text)
            with self.assertRaises(NoText) as caught:
                read_row(text)
            self.assertNotIsInstance(caught.exception, TooLong)

    def test_many_threads_with_a_short_round(self):
        self.assertEqual(len(read_row("a1 b238 a1 fold")), 240)
        self.assertEqual(len(read_row("b240 fold 3")), 1)

    def test_no_text(self):
        for thing in NO_TEXTS + (Row((("b", 8),)), ("b8 w2",)):
            self.assertIsNone(self.refused(thing))


class Writing(unittest.TestCase):
    def test_the_stripes_of_the_threads_alone(self):
        self.assertEqual(show_row(Row((("b", 8), ("w", 2)))), "b8 w2")
        self.assertEqual(show_row(row=Row((("b", 8), ("w", 2)), "run", 9)), "w1 b8 w1")
        self.assertEqual(show_row(Row((("a", 1), ("b", 1), ("c", 1)), "fold", 1)), "b1 c2 b1 a2")
        self.assertEqual(show_row(Row((("b", 240),))), "b1")
        self.assertEqual(show_row(Row((("w", 2), ("b", 8)))), "w2 b8")

    def test_read_again_it_is_alike(self):
        for text in ("b8 w2", "b8 w2 fold 3", "a1 b2 c1 left -7", "abc3 ab10 a1 pivot 12", f"b1 w2 b3 right {BIG}", "b240"):
            row = read_row(text)
            self.assertTrue(read_row(show_row(row)).alike(row))
            self.assertEqual(show_row(read_row(show_row(row))), show_row(row))

    def test_one_just_where_texts_are_the_same(self):
        row = read_row("b8 w2")
        for text in ("w2 b8", "b3 w2 b5", "b4 w1 fold", "w2 b8 b8 w2 w2 b8 fold"):
            other = read_row(text)
            self.assertEqual(row == other, str(row) == str(other), text)
        self.assertEqual(str(read_row("b4 w1 fold")), "b8 w2")
        self.assertEqual(str(read_row("b4 w1 fold 3")), "b8 w2")


if __name__ == "__main__":
    unittest.main()
