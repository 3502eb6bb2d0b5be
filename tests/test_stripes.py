"""[5] Shades, stripes, threads."""

import unittest

from things import NO_TEXTS, WRONG_SHADES, WRONG_THREADS

from stripelay.errors import NoStripes, NoThreads
from stripelay.stripes import are_stripes, is_shade, stripes_of, threads_of

# Each with the number that NoStripes tells of it.
WRONG_STRIPES = (
    (None, None), (True, None), (False, None), (5, None), ("b8", None), (b"b8", None), ([], None),
    ([("b", 8)], None), ({}, None), ({("b", 8): 1}, None), (set(), None), ((), None),
    (("b", 8), 0), ((("b", 0),), 0), ((("b", -1),), 0), ((("b", True),), 0), ((("b", False),), 0),
    ((("b", None),), 0), ((("b", "8"),), 0), ((("b", [8]),), 0), ((("b",),), 0), (((),), 0), ((("b", 8, 1),), 0),
    ((["b", 8],), 0), (("b8",), 0), ((None,), 0), ((5,), 0), ((("B", 8),), 0), ((("", 8),), 0),
    (((8, "b"),), 0), (((None, 8),), 0), (((("b", 8),),), 0), ((((((((("b", 8),),),),),),),), 0),
    ((("abcd", 8),), 0), ((("b1", 8),), 0), ((("b", 8), ("w", 0)), 1), ((("b", 8), None, ("w", 0)), 1),
    ((("b", 8), ("w", 2), ["r", 1]), 2), ((("b", 241),), 0), ((("b", 10 ** 30),), 0), ((("b", 10 ** 39),), 0),
    ((("b", 240), ("w", 1)), 1), ((("b", 120), ("w", 120), ("b", 1)), 2), ((("b", 240), ("w", 1), None), 1),
    ((("b", 240), None, ("w", 1)), 1), (tuple([("b", 1)] * 241), 240), ((("b", 100), ("w", 200), ("r", 0)), 1),
)
RIGHT_STRIPES = (
    (("b", 1),), (("b", 8), ("w", 2)), (("abc", 240),), (("b", 239), ("w", 1)), (("b", 2), ("b", 3)),
    (("a", 1), ("z", 1), ("az", 1)), tuple([("b", 1)] * 240),
)


class Shades(unittest.TestCase):
    def test_one_to_three_small_letters(self):
        for shade in ("a", "z", "ab", "zz", "abc", "zzz", "run"):
            self.assertIs(is_shade(shade), True, shade)

    def test_other_texts(self):
        for text in WRONG_SHADES:
            self.assertIs(is_shade(text), False, text)

    def test_things_of_any_kind(self):
        for thing in NO_TEXTS + (("b",), ["b"], {"b": 1}, b"b"):
            self.assertIs(is_shade(thing), False, thing)

    def test_by_name(self):
        self.assertIs(is_shade(thing="b"), True)


class Stripes(unittest.TestCase):
    def test_what_stripes_are(self):
        for stripes in RIGHT_STRIPES:
            self.assertIs(are_stripes(stripes), True, stripes)
        self.assertIs(are_stripes(thing=(("b", 1),)), True)

    def test_what_no_stripes_are(self):
        for thing, number in WRONG_STRIPES:
            self.assertIs(are_stripes(thing), False, thing)
        for thing in NO_TEXTS:
            self.assertIs(are_stripes(thing), False, thing)

    def test_no_stripes_are_refused_with_the_number(self):
        for thing, number in WRONG_STRIPES:
            with self.assertRaises(NoStripes) as caught:
                threads_of(thing)
            self.assertEqual(caught.exception.number, number, thing)
            self.assertNotIsInstance(caught.exception.number, bool)

    def test_things_of_any_kind_are_refused_without_a_number(self):
        for thing in NO_TEXTS:
            if isinstance(thing, tuple) and thing:
                continue
            with self.assertRaises(NoStripes) as caught:
                threads_of(thing)
            self.assertIsNone(caught.exception.number)

    def test_stripes_as_texts_are_refused_with_their_number(self):
        with self.assertRaises(NoStripes) as caught:
            threads_of((("b", 1), "w1"))
        self.assertEqual(caught.exception.number, 1)


class Threads(unittest.TestCase):
    def test_count_times_each(self):
        self.assertEqual(threads_of((("b", 3), ("w", 1), ("b", 2))), ("b", "b", "b", "w", "b", "b"))
        self.assertEqual(threads_of((("b", 2), ("b", 1))), ("b", "b", "b"))
        self.assertEqual(threads_of(stripes=(("abc", 240),)), ("abc",) * 240)
        self.assertIsInstance(threads_of((("b", 3),)), tuple)

    def test_fewest_stripes(self):
        self.assertEqual(stripes_of(("b", "b", "b", "w", "b", "b")), (("b", 3), ("w", 1), ("b", 2)))
        self.assertEqual(stripes_of(("b",)), (("b", 1),))
        self.assertEqual(stripes_of(threads=("b",) * 240), (("b", 240),))
        self.assertEqual(stripes_of(("b", "bb", "bbb")), (("b", 1), ("bb", 1), ("bbb", 1)))
        self.assertEqual(stripes_of(("b", "w") * 120), (("b", 1), ("w", 1)) * 120)

    def test_neighbours_of_one_shade_become_one_stripe(self):
        told = stripes_of(threads_of((("b", 2), ("b", 3), ("w", 1), ("w", 1), ("b", 1))))
        self.assertEqual(told, (("b", 5), ("w", 2), ("b", 1)))
        self.assertIsInstance(told, tuple)
        self.assertIsInstance(told[0], tuple)

    def test_there_and_back(self):
        for stripes in RIGHT_STRIPES:
            threads = threads_of(stripes)
            self.assertEqual(threads_of(stripes_of(threads)), threads)

    def test_no_threads_are_refused(self):
        for thing in WRONG_THREADS:
            with self.assertRaises(NoThreads, msg=thing):
                stripes_of(thing)
        for thing in NO_TEXTS:
            if thing == ("run",):
                continue
            with self.assertRaises(NoThreads, msg=thing):
                stripes_of(thing)


if __name__ == "__main__":
    unittest.main()
