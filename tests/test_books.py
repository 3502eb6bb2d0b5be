"""[25], [2], [3] Books."""

import unittest

from things import BIG, NO_TEXTS

from stripelay.books import Book
from stripelay.errors import NoName, NoUndo, TooMany
from stripelay.rows import Row
from stripelay.rowtexts import read_row

NO_NAMES = NO_TEXTS + (
    "", "B", "aB", "1", "a1", " ", "a ", " a", "abcdefghi", "a-", "\n", "a\n", "a`", "a{", "\u00e9", "a b", Row((("b", 1),)),
)
TWELVE = tuple("abcdefghijkl")


def held(book):
    """All that a book keeps, by the rows themselves."""
    return [(name, book.row_of(name).threads()) for name in book.names()]


def filled(**texts):
    book = Book()
    for name, text in texts.items():
        book.put(name, read_row(text))
    return book


def full():
    return filled(**{name: f"{name}1 w1" for name in TWELVE})


class Putting(unittest.TestCase):
    def test_new_names_and_one_that_stands(self):
        book = Book()
        self.assertEqual((len(book), book.names()), (0, []))
        self.assertIsNone(book.put("b", read_row("b1")))
        self.assertIsNone(book.put(row=read_row("a1"), name="abcdefgh"))
        self.assertEqual(held(book), [("abcdefgh", ("a",)), ("b", ("b",))])
        book.put("b", read_row("c1 d1"))
        self.assertEqual(held(book), [("abcdefgh", ("a",)), ("b", ("c", "d"))])
        self.assertEqual(len(book), 2)

    def test_twelve_rows_and_beyond(self):
        book = full()
        self.assertEqual((len(book), book.names()), (12, list(TWELVE)))
        before = held(book)
        with self.assertRaises(TooMany):
            book.put("m", read_row("b1"))
        self.assertEqual(held(book), before)
        book.put("l", read_row("b1"))
        self.assertEqual((len(book), book.row_of("l").threads()), (12, ("b",)))
        book.take("a")
        book.put("m", read_row("b1"))
        self.assertEqual((len(book), book.names()), (12, list("bcdefghijklm")))
        with self.assertRaises(TooMany):
            book.put("a", read_row("b1"))

    def test_no_name(self):
        for book in (Book(), full()):
            before = held(book)
            for thing in NO_NAMES:
                for deed in (lambda: book.put(thing, read_row("b1")), lambda: book.take(thing), lambda: book.row_of(thing)):
                    with self.assertRaises(NoName) as caught:
                        deed()
                    self.assertIs(caught.exception.name, thing)
            self.assertEqual(held(book), before)

    def test_the_row_handed_in_stays(self):
        row = read_row("a1 b2")
        book = Book()
        book.put("a", row)
        book.put("b", row)
        book.take("a")
        book.undo()
        self.assertEqual(row.threads(), ("a", "b", "b"))
        self.assertTrue(book.row_of("a").alike(row))


class Taking(unittest.TestCase):
    def test_a_name_that_stands(self):
        book = filled(a="a1", b="b1")
        self.assertIsNone(book.take("a"))
        self.assertEqual(held(book), [("b", ("b",))])
        self.assertIsNone(book.take(name="b"))
        self.assertEqual((held(book), len(book)), ([], 0))

    def test_a_name_that_does_not(self):
        book = filled(a="a1")
        for name in ("b", "aa", "abcdefgh"):
            for deed in (book.take, book.row_of):
                with self.assertRaises(NoName) as caught:
                    deed(name)
                self.assertEqual(caught.exception.name, name)
        book.take("a")
        with self.assertRaises(NoName):
            book.take("a")
        with self.assertRaises(NoName):
            book.row_of("a")


class Undoing(unittest.TestCase):
    def test_puts_and_takes_one_by_one(self):
        book = Book()
        states = []
        for deed in (lambda: book.put("a", read_row("a1")), lambda: book.put("b", read_row("b1")), lambda: book.put("a", read_row("c1")),
                     lambda: book.take("b"), lambda: book.put("b", read_row("d1")), lambda: book.take("a"), lambda: book.take("b")):
            states.append(held(book))
            deed()
        for state in reversed(states):
            self.assertIsNone(book.undo())
            self.assertEqual(held(book), state)
            self.assertEqual(len(book), len(state))
        with self.assertRaises(NoUndo):
            book.undo()
        self.assertEqual(held(book), [])

    def test_several_hundred_to_the_beginning(self):
        book = Book()
        states = []
        for turn in range(700):
            states.append(held(book))
            name = TWELVE[turn * 5 % 12]
            if turn * turn % 7 == 2 and name in book.names():
                book.take(name)
            else:
                book.put(name, read_row(f"b{turn % 11 + 1} w1"))
        for state in reversed(states):
            book.undo()
            self.assertEqual(held(book), state)
        for turn in range(3):
            with self.assertRaises(NoUndo):
                book.undo()

    def test_what_is_undone_is_not_undone_again(self):
        book = filled(a="a1", b="b1")
        book.undo()
        book.put("c", read_row("c1"))
        book.undo()
        self.assertEqual(book.names(), ["a"])
        book.undo()
        self.assertEqual(book.names(), [])
        with self.assertRaises(NoUndo):
            book.undo()

    def test_a_put_of_the_same_row_is_one(self):
        row = read_row("a1")
        book = Book()
        book.put("a", row)
        book.put("a", row)
        book.undo()
        self.assertEqual(book.names(), ["a"])
        book.undo()
        self.assertEqual(book.names(), [])

    def test_what_is_refused_is_not_undone(self):
        book = full()
        for deed in (lambda: book.put("m", read_row("b1")), lambda: book.put("B", read_row("b1")), lambda: book.take("m"),
                     lambda: book.take(None), lambda: book.row_of("m")):
            with self.assertRaises((TooMany, NoName)):
                deed()
        book.names()
        book.in_order()
        book.groups()
        book.undo()
        self.assertEqual(book.names(), list(TWELVE[:11]))
        fresh = Book()
        with self.assertRaises(NoUndo):
            fresh.undo()
        fresh.put("a", read_row("a1"))
        self.assertEqual(fresh.names(), ["a"])

    def test_undo_makes_room_again(self):
        book = full()
        book.undo()
        book.put("m", read_row("b1"))
        self.assertEqual(len(book), 12)


class Telling(unittest.TestCase):
    def test_names_rising_and_new(self):
        book = filled(b="a1", ab="a1", a="b1", z="c1", aa="d1")
        self.assertEqual(book.names(), ["a", "aa", "ab", "b", "z"])
        told = book.names()
        self.assertIs(type(told), list)
        told.clear()
        told.append("x")
        self.assertEqual(book.names(), ["a", "aa", "ab", "b", "z"])
        self.assertEqual(len(book), 5)

    def test_row_of(self):
        book = filled(a="b8 w2 run 3")
        self.assertIsInstance(book.row_of("a"), Row)
        self.assertTrue(book.row_of(name="a").alike(read_row("b8 w2 run 3")))

    def test_two_books_know_nothing_of_each_other(self):
        book, other = Book(), Book()
        book.put("a", read_row("a1"))
        self.assertEqual((other.names(), len(other)), ([], 0))
        with self.assertRaises(NoUndo):
            other.undo()
        other.put("a", read_row("b1"))
        other.put("b", read_row("b1"))
        book.undo()
        self.assertEqual((book.names(), held(other)), ([], [("a", ("b",)), ("b", ("b",))]))


class Order(unittest.TestCase):
    def setUp(self):
        # Their strs: b3 w1, a2 b1, c1, a2 b1, a1 b2, a9 c3, b1 w1.
        self.book = filled(g="w1 b3", b="a2 b1", f="c1", a="b1 a2", e="b2 a1", c="c3 a9", d="b1 w1")

    def test_by_str(self):
        self.assertEqual(self.book.in_order(), ["e", "a", "b", "c", "d", "g", "f"])
        self.assertEqual(self.book.in_order(None, False), ["e", "a", "b", "c", "d", "g", "f"])
        self.assertEqual(self.book.in_order(str), ["e", "a", "b", "c", "d", "g", "f"])

    def test_by_str_falling(self):
        self.assertEqual(self.book.in_order(None, True), ["f", "g", "d", "c", "a", "b", "e"])
        self.assertEqual(self.book.in_order(falling=True), ["f", "g", "d", "c", "a", "b", "e"])

    def test_by_keys(self):
        self.assertEqual(self.book.in_order(len), ["f", "d", "a", "b", "e", "g", "c"])
        self.assertEqual(self.book.in_order(lambda row: -len(row)), ["c", "g", "a", "b", "e", "d", "f"])
        self.assertEqual(self.book.in_order(key=lambda row: row.at(0), falling=False), ["b", "a", "d", "e", "c", "f", "g"])

        def last(row):
            return (row.at(-1), len(row))

        self.assertEqual(self.book.in_order(last), ["a", "e", "c", "b", "g", "f", "d"])

    def test_by_keys_falling(self):
        self.assertEqual(self.book.in_order(len, True), ["c", "g", "a", "b", "e", "d", "f"])
        self.assertEqual(self.book.in_order(falling=True, key=lambda row: row.at(0)), ["g", "c", "f", "a", "d", "e", "b"])

    def test_of_the_same_keys_by_names_rising_either_way(self):
        self.assertEqual(self.book.in_order(lambda row: 0), list("abcdefg"))
        self.assertEqual(self.book.in_order(lambda row: 0, True), list("abcdefg"))

    def test_asked_of_the_rows_at_hand_alone(self):
        asked = []
        self.book.in_order(lambda row: (asked.append(row) is None, str(row)))
        self.assertEqual({str(row) for row in asked}, {str(self.book.row_of(name)) for name in self.book.names()})
        self.assertTrue(all(isinstance(row, Row) for row in asked))

    def test_new_each_time(self):
        told = self.book.in_order()
        self.assertIs(type(told), list)
        told.clear()
        self.assertEqual(len(self.book.in_order()), 7)
        self.assertEqual((Book().in_order(), Book().in_order(len, True)), ([], []))


class Groups(unittest.TestCase):
    def test_rows_that_are_one(self):
        book = filled(d="b8 w2", b="a1", a="w2 b8", f="b4 w1 fold 3", c="a7", e="a1 b2 c3", g="c3 b2 a1")
        self.assertEqual(book.groups(), [("a", "d", "f"), ("b", "c"), ("e",), ("g",)])

    def test_moved_far(self):
        book = Book()
        row = read_row("a1 b2 c3 b1")
        for name, by in (("x", 0), ("y", BIG), ("m", -BIG), ("n", 3)):
            book.put(name, row.moved(by))
        book.put("o", row.turned())
        self.assertEqual(book.groups(), [("m", "n", "x", "y"), ("o",)])

    def test_none_and_all(self):
        self.assertEqual(Book().groups(), [])
        self.assertEqual(full().groups(), [(name,) for name in TWELVE])
        self.assertEqual(filled(**{name: "b1" for name in TWELVE}).groups(), [TWELVE])

    def test_new_each_time(self):
        book = filled(a="a1", b="a1")
        told = book.groups()
        self.assertIs(type(told), list)
        self.assertTrue(all(type(group) is tuple for group in told))
        told.clear()
        self.assertEqual(book.groups(), [("a", "b")])

    def test_as_it_is_now(self):
        book = filled(a="a1", b="a1")
        book.put("b", read_row("b1"))
        self.assertEqual(book.groups(), [("a",), ("b",)])
        book.undo()
        self.assertEqual(book.groups(), [("a", "b")])


if __name__ == "__main__":
    unittest.main()
