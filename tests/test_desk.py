"""[26], [25], [2], [3] The desk."""

import unittest

from things import BIG, NO_TEXTS

from stripelay.books import Book
from stripelay.desk import Desk
from stripelay.errors import NoCut, NoName, NoOrder, NoShade, NoSpot, NoStep, NoText, NoUndo, TooLong, TooMany
from stripelay.rows import Row

TWELVE = tuple("abcdefghijkl")
# How many words stand behind each first one; `put` may have more.
WORDS = {
    "put": 2, "take": 1, "undo": 0, "turn": 2, "move": 3, "each": 3, "lay": 4, "turns": 3, "names": 0, "show": 1, "text": 1,
    "long": 1, "at": 2, "many": 4, "mirror": 1, "same": 2, "between": 2, "unlike": 2, "dyes": 2,
}
# Rows with a # where a number should stand; each is good with a small one there.
NUMBERED = ("move n a #", "each n a #", "at a #", "many a b # 9", "many a b 1 #")
NO_NUMBERS = (
    "", "00", "01", "-0", "-01", "-00", "+5", "+0", "--5", "-", "5-", "x", "5x", "1.0", "1_0", "0x1", "1e3", "5\n", "\n5", "b",
    "\u0665", "\u00b2", "1" * 32, "-" + "1" * 32, "9" * 40, "0" * 31, "1" + "0" * 31, "5\t", "None", "True",
)


def desk_with(*rows):
    desk = Desk()
    for row in rows:
        desk.say(row)
    return desk


def usual():
    return desk_with("put a b8 w2", "put b w2 b8 run 3", "put c a1 b2 c3", "put d b1")


def full():
    return desk_with(*[f"put {name} {name}1 w1" for name in TWELVE])


def held(desk):
    return [(name, desk.say(f"show {name}")) for name in desk.say("names").split(" ") if desk.say("names") != "none"]


class Asked(unittest.TestCase):
    def answers(self, desk, *pairs):
        for row, wanted in pairs:
            told = desk.say(row)
            self.assertEqual(told, wanted, row)
            self.assertIs(type(told), str)

    def refused(self, desk, row, refusal):
        """The refusal, of this class alone; it changes nothing, nor is it undone."""
        before = held(desk)
        with self.assertRaises(refusal, msg=repr(row)) as caught:
            desk.say(row)
        self.assertIs(type(caught.exception), refusal)
        self.assertEqual(held(desk), before, row)
        return caught.exception


class Answers(Asked):
    def test_put_take_undo_names(self):
        self.answers(
            Desk(), ("names", "none"), ("put b b8 w2", "ok"), ("names", "b"), ("put a w1 fold 3", "ok"), ("names", "a b"),
            ("put abcdefgh b1", "ok"), ("names", "a abcdefgh b"), ("take a", "ok"), ("names", "abcdefgh b"), ("undo", "ok"),
            ("names", "a abcdefgh b"), ("undo", "ok"), ("undo", "ok"), ("undo", "ok"), ("names", "none"),
        )

    def test_put_in_the_place_of_one_that_stands(self):
        self.answers(Desk(), ("put a b8 w2", "ok"), ("put a r1", "ok"), ("show a", "r1"), ("undo", "ok"), ("show a", "b8 w2"))

    def test_put_rows_by_manner_and_start(self):
        self.answers(
            Desk(), ("put a b8 w2 run 9", "ok"), ("show a", "w1 b8 w1"), ("put b a1 b1 c1 fold 1", "ok"), ("show b", "b1 c2 b1 a2"),
            ("put c a1 b1 c1 pivot", "ok"), ("show c", "a1 b1 c1 b1"), (f"put d a1 b2 left {-BIG}", "ok"),
            ("put e a1 b2 right", "ok"), ("show e", "a1 b3 a1"), ("put put run1 put1 run 1", "ok"), ("show put", "put1 run1"),
        )

    def test_a_row_of_the_name_none(self):
        self.answers(Desk(), ("put none b1", "ok"), ("names", "none"), ("put a b1", "ok"), ("names", "a none"))

    def test_rows_put_by_new_names(self):
        self.answers(
            usual(), ("turn n c", "ok"), ("show n", "a1 c3 b2"), ("move n c 2", "ok"), ("show n", "c2 a1 b2 c1"), ("move o c -1", "ok"),
            ("show o", "b2 c3 a1"), (f"move o c {BIG}", "ok"), (f"move o c {-BIG}", "ok"), ("each n c 2", "ok"), ("show n", "a1 b1 c1"),
            ("each n c -1", "ok"), ("show n", "a1 c3 b2"), (f"each n c {BIG}", "ok"), (f"each n c {-BIG}", "ok"),
            ("lay n c a b", "ok"), ("show n", "a1 b2 c3 a1 b1 w1 c3 a1 b2 c3 a1 w1 b1 c3 a1 b2 c3"),
            ("lay n a d w", "ok"), ("show n", "b1"), ("lay n a d zzz", "ok"), ("show n", "b8 w2"),
            ("turns n c d", "ok"), ("show n", "a1 b5 c1 b1 c1 b1 c1 b1"), ("turns n d d", "ok"), ("show n", "b1"),
            ("names", "a b c d n o"),
        )

    def test_new_in_the_place_of_name_itself(self):
        self.answers(usual(), ("move c c 1", "ok"), ("show c", "c1 a1 b2 c2"), ("turn c c", "ok"), ("undo", "ok"), ("undo", "ok"),
                     ("show c", "a1 b2 c3"), ("undo", "ok"), ("names", "a b c"))

    def test_one_row(self):
        self.answers(
            usual(), ("show a", "b8 w2"), ("show b", "b7 w2 b1"), ("show d", "b1"), ("text a", "b8 w2"), ("text b", "b8 w2"),
            ("text c", "a1 b2 c3"), ("long a", "10"), ("long d", "1"), ("at a 8", "w"), ("at a -1", "w"), ("at a 0", "b"),
            (f"at a {BIG}", "b"), (f"at a {-BIG}", "b"), (f"at c {BIG}", "c"), ("mirror a", "7"), ("mirror c", "none"), ("mirror d", "0"),
        )

    def test_many(self):
        self.answers(
            usual(), ("many a w 0 18", "3"), ("many a b -10 -1", "8"), ("many a r 0 9", "0"), ("many a b 5 4", "0"), ("many a b 0 0", "1"),
            (f"many a w {-BIG} {BIG}", str(2 * BIG // 10 * 2)), ("many c c 3 3", "1"),
        )

    def test_two_rows(self):
        self.answers(
            usual(), ("same a b", "yes"), ("same a a", "yes"), ("same a c", "no"), ("between a b", "9"), ("between b a", "1"),
            ("between a a", "0"), ("between a c", "never"), ("unlike a b", "7"), ("unlike a a", "never"), ("unlike a c", "0"),
            ("unlike d a", "8"),
        )

    def test_dyes(self):
        self.answers(
            usual(), ("dyes a b", "9"), ("dyes a a", "0"), ("dyes a c", "never"), ("dyes c d", "a>b c>b 0"), ("dyes a d", "w>b 0"),
            ("put e c1 x2 a3 run -2", "ok"), ("dyes c e", "a>c b>x c>a 2"), ("dyes d a", "never"),
        )

    def test_by_name(self):
        self.assertEqual(Desk().say(row="names"), "none")

    def test_the_same_each_time(self):
        desk = usual()
        rows = ("names", "show a", "text b", "long c", "at a 5", "many a w 0 9", "mirror a", "same a b", "between a b", "unlike a b", "dyes c d")
        first = [desk.say(row) for row in rows]
        self.assertEqual([desk.say(row) for row in rows], first)
        self.assertEqual([desk.say(row) for row in reversed(rows)], first[::-1])

    def test_two_desks_know_nothing_of_each_other(self):
        desk, other = usual(), Desk()
        self.answers(other, ("names", "none"), ("put a r1", "ok"))
        self.answers(desk, ("show a", "b8 w2"))

    def test_questions_are_not_undone(self):
        desk = usual()
        for row in ("names", "show a", "at a 5", "dyes a b", "same a c"):
            desk.say(row)
        self.answers(desk, ("undo", "ok"), ("names", "a b c"))

    def test_several_hundred_undone(self):
        desk = Desk()
        for turn in range(300):
            desk.say(f"put {TWELVE[turn % 12]} b{turn % 7 + 1} w1")
        for turn in range(300):
            self.assertEqual(desk.say("undo"), "ok")
        self.assertEqual(desk.say("names"), "none")
        self.refused(desk, "undo", NoUndo)


class NoOrders(Asked):
    def test_another_word(self):
        for row in ("", " ", "x", "Names", "name", "names\n", "\nnames", "put", "PUT a b1", "say names", "ok", "a", "help", "turned n a",
                    "unput a", "putx a b8", "undo\n", "row a", "b8 w2", "~", "names\tx"):
            self.refused(usual(), row, NoOrder)

    def test_too_many_or_too_few_words(self):
        good = {"w": "a", "n": "1"}
        kinds = {"move": "wwn", "each": "wwn", "at": "wn", "many": "wwnn"}
        for word, many in WORDS.items():
            told = [good[kind] for kind in kinds.get(word, "w" * many)]
            for wrong in range(many + 4):
                words = (told + ["a", "1", "a", "1"])[:wrong]
                if wrong != many and not (word == "put" and wrong > many):
                    self.refused(usual(), " ".join([word] + words), NoOrder)

    def test_two_blanks_and_blanks_at_an_end(self):
        for row in (" names", "names ", "  names", "names  ", " undo", "undo ", " put e b1", "take  a", "take a ", " take a", "show  a",
                    "show a ", "turn  n a", "turn n  a", "turn n a ", "move n a  1", "move n a 1 ", "at a  1", "at a 1 ", "at a ", "at  a 1",
                    "many a b 0  1", "many a b  0 1", "same a  b", "same a b ", "between  a b", "unlike a b ", "dyes a b  ", "put ", "lay n a b c "):
            self.refused(usual(), row, NoOrder)

    def test_a_word_without_signs_where_a_name_or_shade_is_wanted(self):
        for row in ("take ", "show ", "text ", "long ", "mirror ", "same  a", "same a ", "dyes  a", "between a ", "turn n ", "at  1", "put  b8",
                    "put  ", "many  b 0 1", "turn  a", "move  a 1"):
            self.assertEqual(self.refused(usual(), row, NoName).name, "")
        self.assertEqual(self.refused(usual(), "lay n a b ", NoShade).shade, "")
        self.assertEqual(self.refused(usual(), "many a  0 1", NoShade).shade, "")

    def test_no_number(self):
        for row in NUMBERED:
            self.assertIs(type(usual().say(row.replace("#", "5"))), str)
            for number in NO_NUMBERS:
                self.refused(usual(), row.replace("#", number), NoOrder)

    def test_no_number_ahead_of_what_the_functions_refuse(self):
        for row in ("move N x 01", "each N x -0", "at x +1", "at X 1.5", "many x B 01 9", "many x B 1 x"):
            self.refused(usual(), row, NoOrder)
            self.refused(full(), row, NoOrder)

    def test_numbers_of_thirty_one_figures_are_some(self):
        for number in ("9" * 31, "-" + "9" * 31, str(BIG + 1), str(-BIG - 1)):
            for row, refusal, field in (("move n a #", NoSpot, "spot"), ("each n a #", NoStep, "step"), ("at a #", NoSpot, "spot"),
                                        ("many a b # 9", NoSpot, "spot"), ("many a b 1 #", NoSpot, "spot")):
                caught = self.refused(usual(), row.replace("#", number), refusal)
                self.assertEqual(getattr(caught, field), int(number))

    def test_no_text(self):
        for thing in NO_TEXTS + (b"names", ["names"], ("names",), ["take", "a"], Row((("b", 1),)), Desk(), Book()):
            self.refused(usual(), thing, NoOrder)


class Refusals(Asked):
    def test_put(self):
        for name in ("B", "a1", "abcdefghi", "a\n", "-", "A"):
            for desk in (usual(), full()):
                for text in ("b8 w2", "", "B8", "b1 w120 fold"):
                    self.assertEqual(self.refused(desk, f"put {name} {text}", NoName).name, name)

    def test_put_no_text(self):
        for text, word in (("", 0), (" ", 0), ("b", 0), ("b0", 0), ("B8", 0), (" b8", 0), ("b8 ", 1), ("b8  w2", 1), ("b8 x", 1), ("b8 run x", 2),
                           ("b8 run -0", 2), (f"b8 run {BIG + 1}", 2), ("b8 run 1 2", 3), ("b240 w1", 1), ("b8\nw2", 0), ("run", 0),
                           ("b1 w120 fold", 3), ("b1 w120 fold 7", 4), ("b8 run " + "1" * 32, 2), ("b8 w2 run run", 3), ("5", 0)):
            for desk, name in ((usual(), "e"), (usual(), "a"), (full(), "m"), (full(), "a")):
                caught = self.refused(desk, f"put {name} {text}", NoText)
                self.assertEqual((caught.line, caught.word), (0, word), text)

    def test_too_many(self):
        for row in ("put m b1", "turn m a", "move m a 1", "each m a 2", "lay m a b w", "turns m a b"):
            self.refused(full(), row, TooMany)
            self.answers(full(), (row.replace(" m ", " l "), "ok"))
            self.refused(full(), row.replace(" m ", " M "), NoName)

    def test_no_name_where_none_stands_or_what_is_none(self):
        for name in ("x", "xyz", "A", "a1", "abcdefghi", "a\n"):
            for row in ("take #", "turn n #", "move n # 1", "each n # 1", "lay n # a w", "lay n a # w", "turns n # a", "turns n a #", "show #",
                        "text #", "long #", "at # 1", "many # b 0 1", "mirror #", "same # a", "same a #", "between # a", "between a #",
                        "unlike # a", "unlike a #", "dyes # a", "dyes a #"):
                self.assertEqual(self.refused(usual(), row.replace("#", name), NoName).name, name)

    def test_name_then_other_ahead_of_all_else(self):
        for desk in (usual(), full()):
            for row, name in (("turn N x", "x"), (f"move N x {BIG + 1}", "x"), ("each N x 0", "x"), ("lay N x y W", "x"), ("lay N a y W", "y"),
                              ("turns N x y", "x"), ("turns N a y", "y"), ("turn m x", "x"), ("lay m a y W", "y"), (f"at x {BIG + 1}", "x"),
                              (f"many x B {BIG + 1} {BIG + 1}", "x"), ("same x y", "x"), ("between x y", "x"), ("unlike x y", "x"),
                              ("dyes x y", "x")):
                self.assertEqual(self.refused(desk, row, NoName).name, name, row)

    def test_what_the_deed_refuses_ahead_of_new(self):
        long = ("put e b120 w1", "put f r1 g1")
        for new in ("n", "N", "", "abcdefghi"):
            desk = desk_with("put a b8 w2", "put b w2 b8 run 3", *long)
            self.assertEqual(self.refused(desk, f"move {new} a {BIG + 1}", NoSpot).spot, BIG + 1)
            self.assertEqual(self.refused(desk, f"each {new} a 0", NoStep).step, 0)
            self.assertEqual(self.refused(desk, f"lay {new} a b W", NoShade).shade, "W")
            self.assertEqual(self.refused(desk, f"lay {new} e f b", TooLong).long, 242)
            self.assertEqual(self.refused(desk, f"turns {new} e f", TooLong).long, 484)
        for row, refusal in ((f"move m a {-BIG - 1}", NoSpot), ("each m a 0", NoStep), ("lay m a b W", NoShade)):
            self.refused(full(), row, refusal)

    def test_new_last_no_name(self):
        for new in ("N", "n1", "abcdefghi", ""):
            for row in ("turn # a", "move # a 1", "each # a 2", "lay # a b w", "turns # a b"):
                self.assertEqual(self.refused(usual(), row.replace("#", new), NoName).name, new)

    def test_at_and_many_in_the_order_of_the_words(self):
        desk = usual()
        self.assertEqual(self.refused(desk, f"at a {BIG + 1}", NoSpot).spot, BIG + 1)
        self.assertEqual(self.refused(desk, f"many a B {BIG + 1} {BIG + 2}", NoShade).shade, "B")
        self.assertEqual(self.refused(desk, f"many a b {BIG + 1} {BIG + 2}", NoSpot).spot, BIG + 1)
        self.assertEqual(self.refused(desk, f"many a b 0 {BIG + 2}", NoSpot).spot, BIG + 2)
        caught = self.refused(desk, "many a b 5 3", NoCut)
        self.assertEqual((caught.first, caught.last), (5, 3))
        self.refused(desk, "many a abcd 0 1", NoShade)

    def test_no_undo(self):
        self.refused(Desk(), "undo", NoUndo)
        desk = desk_with("put a b1", "undo")
        self.refused(desk, "undo", NoUndo)

    def test_what_is_refused_is_not_undone(self):
        desk = usual()
        for row in ("put e B", "put E b1", "take x", "turn N a", "each n a 0", "names x", "move n a 01"):
            with self.assertRaises((NoText, NoName, NoStep, NoOrder)):
                desk.say(row)
        self.answers(desk, ("names", "a b c d"), ("undo", "ok"), ("names", "a b c"))


if __name__ == "__main__":
    unittest.main()
