"""[6], [7], [22], [2], [3] Rows."""

import itertools
import unittest

from things import BIG, NO_SPOTS, NO_TEXTS

from stripelay.errors import NoManner, NoSpot, NoStripes, TooLong
from stripelay.rows import Row
from stripelay.stripes import stripes_of, threads_of

MANNERS = ("run", "pivot", "fold", "left", "right")
FEW_THREADS = [threads for many in range(1, 6) for threads in itertools.product("bw", repeat=many)]
FEW_THREADS += [tuple("abc"), tuple("abcd"), tuple("aabbc"), tuple("abcab"), ("abc", "ab", "a")]
PLAIN = (("b", 8), ("w", 2))
# 240 threads, no two spots with the same neighbours mirrored: fold gives a round of 480.
CROOKED = (("b", 100), ("w", 99), ("b", 1), ("r", 40))


def walked(threads, manner, steps):
    """The threads from t0 on, found by walking to and fro one thread after the other."""
    if manner == "run" or len(threads) == 1:
        return [threads[step % len(threads)] for step in range(steps)]
    twice_first = manner in ("fold", "right")
    twice_last = manner in ("fold", "left")
    told, place, way, stayed = [], 0, 1, False
    for step in range(steps):
        told.append(threads[place])
        at_end = (place == 0 and way == -1) or (place == len(threads) - 1 and way == 1)
        twice = twice_first if place == 0 else twice_last
        if at_end and twice and not stayed:
            stayed = True
            continue
        if at_end:
            way = -way
        stayed = False
        place += way
    return told


def by_manner(threads, manner, spot):
    """The thread at a spot of a row with START 0, by the distance from the mirrors."""
    last = len(threads) - 1
    many = {"run": last + 1, "pivot": max(2 * last, 1), "fold": 2 * last + 2}.get(manner, 2 * last + 1)
    rest = spot % many
    if rest <= last:
        return threads[rest]
    beyond = rest - last - 1
    return threads[last - beyond] if manner in ("fold", "left") else threads[last - 1 - beyond]


def least(threads):
    return min(threads[place:] + threads[:place] for place in range(len(threads)))


def row_of(text, manner="run", start=0):
    return Row(stripes_of(tuple(text)), manner, start)


class Manners(unittest.TestCase):
    def test_written_out(self):
        for manner, spots in (("run", "abcabcabc"), ("pivot", "abcbabcba"), ("fold", "abccbaabc"),
                              ("left", "abccbabcc"), ("right", "abcbaabcb")):
            row = row_of("abc", manner)
            self.assertEqual("".join(row.at(spot) for spot in range(9)), spots, manner)

    def test_written_out_below_nought(self):
        for manner, spots in (("run", "abcabc"), ("pivot", "cbabcb"), ("fold", "abccba"),
                              ("left", "babccb"), ("right", "aabcba")):
            row = row_of("abc", manner)
            self.assertEqual("".join(row.at(spot) for spot in range(-6, 0)), spots, manner)

    def test_two_threads(self):
        for manner, spots in (("run", "abababab"), ("pivot", "abababab"), ("fold", "abbaabba"),
                              ("left", "abbabbab"), ("right", "abaabaab")):
            row = row_of("ab", manner)
            self.assertEqual("".join(row.at(spot) for spot in range(8)), spots, manner)

    def test_one_thread_is_alike_by_all(self):
        for manner in MANNERS:
            row = Row((("b", 1),), manner, 7)
            self.assertEqual([row.at(spot) for spot in (-2, -1, 0, 1, 2, BIG)], ["b"] * 6)
            self.assertEqual(len(row), 1)

    def test_spot_by_spot_as_walked(self):
        for threads in FEW_THREADS:
            for manner in MANNERS:
                row = Row(stripes_of(threads), manner)
                self.assertEqual([row.at(spot) for spot in range(25)], walked(threads, manner, 25), (threads, manner))

    def test_spot_by_spot_with_start(self):
        for threads in FEW_THREADS:
            for manner in MANNERS:
                for start in (0, 1, 3, -1, -4, 17, BIG, -BIG):
                    row = Row(stripes_of(threads), manner, start)
                    for spot in (-9, -3, -2, -1, 0, 1, 2, 3, 8, BIG, -BIG):
                        self.assertEqual(row.at(spot), by_manner(threads, manner, spot + start), (threads, manner, start))

    def test_first_thread_lies_at_nought_less_start(self):
        for start in (0, 1, 5, -5, 239, BIG, -BIG):
            row = Row((("a", 1), ("b", 239)), "run", start)
            self.assertEqual(row.at(-start), "a")
            self.assertEqual(row.at(1 - start if start > 0 else -1 - start), "b")

    def test_run_and_nought_where_not_told(self):
        self.assertEqual(Row(PLAIN).threads(), threads_of(PLAIN))
        self.assertTrue(Row(PLAIN).alike(Row(stripes=PLAIN, start=0, manner="run")))
        self.assertTrue(Row(PLAIN, start=3).alike(Row(PLAIN, "run", 3)))


class Rounds(unittest.TestCase):
    def test_least_round(self):
        for threads in FEW_THREADS:
            for manner in MANNERS:
                told = [by_manner(threads, manner, spot) for spot in range(120)]
                wanted = min(by for by in range(1, 13) if told[by:] == told[:-by])
                self.assertEqual(len(Row(stripes_of(threads), manner, 5)), wanted, (threads, manner))

    def test_told_twice_over(self):
        self.assertEqual(len(row_of("abcabc")), 3)
        self.assertEqual(len(Row((("b", 2), ("w", 1)) * 80)), 3)
        self.assertEqual(len(Row((("b", 240),))), 1)
        self.assertEqual(len(row_of("abcabca")), 7)

    def test_mirrored_in_itself(self):
        self.assertEqual(len(row_of("abba", "fold")), 4)
        self.assertEqual(len(row_of("abab", "pivot")), 2)
        self.assertEqual(len(row_of("aabaa", "left")), 9)
        self.assertEqual(len(row_of("abccbaabc", "fold")), 6)

    def test_240_threads_that_run(self):
        self.assertEqual(len(Row(CROOKED)), 240)

    def test_too_long(self):
        for manner, long in (("pivot", 478), ("fold", 480), ("left", 479), ("right", 479)):
            with self.assertRaises(TooLong) as caught:
                Row(CROOKED, manner, 4)
            self.assertEqual(caught.exception.long, long)

    def test_just_at_and_above_240(self):
        self.assertEqual(len(Row((("a", 1), ("b", 119)), "fold")), 240)
        self.assertEqual(len(Row((("a", 1), ("b", 120)), "pivot")), 240)
        self.assertEqual(len(Row((("a", 1), ("b", 119)), "right")), 239)
        for stripes, manner, long in (((("a", 1), ("b", 120)), "fold", 242), ((("a", 1), ("b", 121)), "pivot", 242),
                                      ((("a", 1), ("b", 120)), "left", 241), ((("a", 1), ("b", 120)), "right", 241)):
            with self.assertRaises(TooLong) as caught:
                Row(stripes, manner)
            self.assertEqual(caught.exception.long, long)

    def test_the_round_counts_and_not_the_threads(self):
        self.assertEqual(len(Row((("a", 1), ("b", 238), ("a", 1)), "fold")), 240)
        self.assertEqual(len(Row((("b", 240),), "fold")), 1)
        self.assertEqual(len(Row((("a", 60), ("b", 120), ("a", 60)), "fold")), 240)
        # Told by 242 threads over and over, its round is 121 of them.
        half = (("a", 1), ("b", 59), ("c", 1), ("b", 59), ("a", 1))
        self.assertEqual(len(Row(half, "fold")), 121)

    def test_the_round_of_a_long_telling_can_be_above_240(self):
        with self.assertRaises(TooLong) as caught:
            Row((("b", 1), ("w", 1)) * 120, "fold")
        self.assertEqual(caught.exception.long, 480)


class Refusals(unittest.TestCase):
    def test_no_stripes(self):
        for thing, number in ((None, None), ((), None), ([("b", 8)], None), ((("b", 8), ("w", 0)), 1),
                              ((("b", 240), ("w", 1)), 1), ((("b", True),), 0), ("b8", None)):
            with self.assertRaises(NoStripes) as caught:
                Row(thing)
            self.assertEqual(caught.exception.number, number)

    def test_no_manner(self):
        for thing in NO_TEXTS + ("", "Run", "run ", " run", "ru", "runs", "turn", "up", "run\n"):
            with self.assertRaises(NoManner, msg=thing):
                Row(PLAIN, thing)
        with self.assertRaises(NoManner):
            Row(PLAIN, Row(PLAIN))

    def test_no_start(self):
        for thing in NO_SPOTS:
            with self.assertRaises(NoSpot) as caught:
                Row(PLAIN, "run", thing)
            self.assertIs(caught.exception.spot, thing)

    def test_no_spot(self):
        row = Row(PLAIN)
        for thing in NO_SPOTS:
            with self.assertRaises(NoSpot) as caught:
                row.at(thing)
            self.assertIs(caught.exception.spot, thing)
            with self.assertRaises(NoSpot) as caught:
                row.moved(thing)
            self.assertIs(caught.exception.spot, thing)

    def test_big_itself_is_a_spot(self):
        for spot in (BIG, -BIG):
            row = Row(PLAIN, "run", spot)
            self.assertEqual(row.at(-spot), "b")
            self.assertEqual(row.at(-spot + (8 if spot > 0 else -2)), "w")
            self.assertIn(row.at(spot), ("b", "w"))
            self.assertEqual(Row(PLAIN).moved(spot).at(spot), "b")

    def test_order(self):
        with self.assertRaises(NoStripes):
            Row((), "no", True)
        with self.assertRaises(NoManner):
            Row(CROOKED, "no", True)
        with self.assertRaises(NoSpot):
            Row(CROOKED, "fold", True)
        with self.assertRaises(TooLong):
            Row(CROOKED, "fold", BIG)


class Told(unittest.TestCase):
    def test_far_spots(self):
        row = Row(PLAIN, "run", 3)
        for spot in (BIG, BIG - 1, -BIG, 10 ** 29 + 7, -10 ** 29 - 8, 12345678901234567890):
            self.assertEqual(row.at(spot), "b" if (spot + 3) % 10 < 8 else "w")
        self.assertEqual(row.at(spot=5), "w")

    def test_threads_from_nought_on(self):
        for threads in FEW_THREADS:
            for manner in MANNERS:
                for start in (0, 2, -3, BIG):
                    row = Row(stripes_of(threads), manner, start)
                    told = row.threads()
                    self.assertIsInstance(told, tuple)
                    self.assertEqual(told, tuple(row.at(spot) for spot in range(len(row))))
        self.assertEqual(row_of("abc", "run", 1).threads(), ("b", "c", "a"))

    def test_shades_rising(self):
        self.assertEqual(Row((("w", 2), ("b", 1), ("ab", 1), ("w", 1), ("abc", 1))).shades(), ("ab", "abc", "b", "w"))
        self.assertEqual(Row((("w", 2),)).shades(), ("w",))

    def test_moved(self):
        row = row_of("abcad", "run", 2)
        for by in (0, 1, 4, 5, 7, -1, -13, BIG, -BIG):
            moved = row.moved(by)
            for spot in (-3, -2, -1, 0, 1, 2, 3, 11):
                self.assertEqual(moved.at((spot + by) % 5), row.at(spot), by)
            self.assertEqual(row.threads(), ("c", "a", "d", "a", "b"))
        self.assertEqual(row.moved(by=1).threads(), ("b", "c", "a", "d", "a"))
        self.assertEqual(row.moved(1).moved(BIG).moved(-BIG).moved(-1).threads(), row.threads())

    def test_turned(self):
        row = row_of("abcad", "run", 2)
        turned = row.turned()
        for spot in (-7, -2, -1, 0, 1, 2, 3, 6, BIG, -BIG):
            self.assertEqual(turned.at(-spot), row.at(spot))
        self.assertEqual(row.threads(), ("c", "a", "d", "a", "b"))
        self.assertEqual(turned.threads(), ("c", "b", "a", "d", "a"))
        self.assertTrue(turned.turned().alike(row))
        self.assertEqual(Row((("b", 3),)).turned().threads(), ("b",))

    def test_len(self):
        self.assertEqual(len(Row(PLAIN)), 10)
        self.assertEqual(len(row_of("abcad").moved(3)), 5)


class Sameness(unittest.TestCase):
    def test_alike(self):
        row = row_of("abc")
        for other in (row_of("abcabc"), row_of("cab", "run", 1), row_of("abc", "run", 3), row.moved(3), row.moved(-BIG).moved(BIG),
                      row.turned().turned(), row):
            self.assertIs(row.alike(other), True)
        for other in (row.moved(1), row.turned(), row_of("abd"), row_of("abcabd"), row_of("ab"), row_of("abcc")):
            self.assertIs(row.alike(other), False)
        self.assertIs(row.alike(other=row), True)
        self.assertTrue(row_of("abc", "pivot").alike(row_of("abcb")))

    def test_equal_told_otherwise(self):
        row = row_of("abcb")
        for other in (row_of("abc", "pivot"), row_of("cbab"), row.moved(1), row.moved(BIG), row.turned(), row_of("cba", "pivot", 9),
                      row_of("bcbabcba"), row_of("abcba", "pivot")):
            self.assertIs(row == other, True)
            self.assertIs(row != other, False)

    def test_unequal(self):
        row = row_of("abcd")
        for other in (row.turned(), row_of("abce"), row_of("abcdabce"), row_of("abc"), row_of("abcdd"), row_of("abdc")):
            self.assertIs(row == other, False)
            self.assertIs(row != other, True)

    def test_no_row(self):
        row = Row((("b", 1),))
        for thing in NO_TEXTS + ("b1", "b", (("b", 1),), ("b",), repr(row)):
            self.assertIs(row == thing, False)
            self.assertIs(thing == row, False)
            self.assertIs(row != thing, True)

    def test_one_just_where_texts_are_the_same(self):
        rows = [Row(stripes_of(threads), manner, 1) for threads in FEW_THREADS[:40] for manner in MANNERS]
        rows = [row for row in rows if len(row) < 7]
        for row in rows:
            for other in rows:
                as_moved = any(row.moved(by).alike(other) for by in range(len(row)))
                self.assertIs(row == other, as_moved)
                self.assertIs(str(row) == str(other), as_moved)


class Texts(unittest.TestCase):
    def test_str_by_the_least_beginning(self):
        self.assertEqual(str(Row(PLAIN)), "b8 w2")
        self.assertEqual(str(Row((("w", 2), ("b", 8)), "run", 1)), "b8 w2")
        self.assertEqual(str(Row((("b", 3), ("w", 2), ("b", 5)))), "b8 w2")
        self.assertEqual(str(row_of("abab")), "a1 b1")
        self.assertEqual(str(row_of("babaa")), "a2 b1 a1 b1")
        self.assertEqual(str(Row((("b", 240),))), "b1")
        self.assertEqual(str(Row((("b", 1), ("ab", 1), ("abc", 1)))), "ab1 abc1 b1")
        self.assertEqual(str(Row((("w", 10), ("b", 12)))), "b12 w10")

    def test_the_least_of_tuples_and_not_of_texts(self):
        # As texts "a10 .." would stand ahead of "a9 .."; and "ab" ahead of "b" as shades.
        self.assertEqual(str(Row((("a", 9), ("b", 1), ("a", 10), ("c", 1)))), "a10 c1 a9 b1")
        self.assertEqual(str(Row((("a", 1), ("b", 1), ("a", 1), ("ab", 1)))), "a1 ab1 a1 b1")
        for threads in FEW_THREADS:
            row = Row(stripes_of(threads), "left", 2)
            words = " ".join(shade + str(many) for shade, many in stripes_of(least(row.threads())))
            self.assertEqual(str(row), words)

    def test_repr_by_the_threads_from_nought_on(self):
        self.assertEqual(repr(Row(PLAIN)), "Row((('b', 8), ('w', 2)))")
        self.assertEqual(repr(Row(PLAIN, "run", 9)), "Row((('w', 1), ('b', 8), ('w', 1)))")
        self.assertEqual(repr(Row((("b", 9),))), "Row((('b', 1),))")
        self.assertEqual(repr(row_of("aab", "fold", 1)), "Row((('a', 1), ('b', 2), ('a', 3)))")
        for threads in FEW_THREADS:
            row = Row(stripes_of(threads), "right", 2)
            self.assertTrue(eval(repr(row), {"Row": Row}).alike(row))


class Values(unittest.TestCase):
    def test_what_is_asked_changes_nothing(self):
        row = row_of("abcad", "run", 2)
        before = (row.threads(), row.shades(), len(row), str(row), repr(row), row.at(3))
        row.moved(2)
        row.turned()
        self.assertFalse(row.alike(row.moved(1)))
        self.assertTrue(row == row.moved(1))
        for asked in (lambda: row.at(True), lambda: row.moved(None)):
            with self.assertRaises(NoSpot):
                asked()
        self.assertEqual((row.threads(), row.shades(), len(row), str(row), repr(row), row.at(3)), before)

    def test_far_spots_are_not_come_to_thread_by_thread(self):
        row = Row(CROOKED, "run", BIG).moved(-BIG).moved(-BIG).turned()
        self.assertEqual(row.at(BIG), by_manner(threads_of(CROOKED), "run", -BIG + BIG + 2 * BIG))


if __name__ == "__main__":
    unittest.main()
