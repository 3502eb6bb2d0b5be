"""A desk that answers rows of words with texts."""

from stripelay.amounts import amount
from stripelay.beside import first_unlike
from stripelay.books import Book, check_name
from stripelay.dyes import fewest_dyes
from stripelay.errors import NoOrder
from stripelay.figures import number_of
from stripelay.laying import by_turns, laid
from stripelay.mirrors import mirror
from stripelay.moves import move_between
from stripelay.rowtexts import read_row, show_row
from stripelay.steps import each


def put_row(book, name, row):
    """Put a row, and answer."""
    book.put(name, row)
    return "ok"


def number_or(number, word):
    """A number in figures, or a word where there is none."""
    return word if number is None else str(number)


def say_put(book, name, text):
    """`put NAME ROW`."""
    # The book looks at the name itself, but only when the row is read.
    check_name(name)
    return put_row(book, name, read_row(text))


def say_take(book, name):
    """`take NAME`."""
    book.take(name)
    return "ok"


def say_undo(book):
    """`undo`."""
    book.undo()
    return "ok"


def say_turn(book, new, name):
    """`turn NEW NAME`."""
    return put_row(book, new, book.row_of(name).turned())


def say_move(book, new, name, by):
    """`move NEW NAME BY`."""
    return put_row(book, new, book.row_of(name).moved(by))


def say_each(book, new, name, step):
    """`each NEW NAME STEP`."""
    return put_row(book, new, each(book.row_of(name), step))


def say_lay(book, new, name, other, clear):
    """`lay NEW NAME OTHER CLEAR`."""
    return put_row(book, new, laid(book.row_of(name), book.row_of(other), clear))


def say_turns(book, new, name, other):
    """`turns NEW NAME OTHER`."""
    return put_row(book, new, by_turns(book.row_of(name), book.row_of(other)))


def say_names(book):
    """`names`."""
    names = book.names()
    return " ".join(names) if len(names) > 0 else "none"


def say_show(book, name):
    """`show NAME`."""
    return show_row(book.row_of(name))


def say_text(book, name):
    """`text NAME`."""
    return str(book.row_of(name))


def say_long(book, name):
    """`long NAME`."""
    return str(len(book.row_of(name)))


def say_at(book, name, spot):
    """`at NAME SPOT`."""
    return book.row_of(name).at(spot)


def say_many(book, name, shade, first, last):
    """`many NAME SHADE FIRST LAST`."""
    return str(amount(book.row_of(name), shade, first, last))


def say_mirror(book, name):
    """`mirror NAME`."""
    return number_or(mirror(book.row_of(name)), "none")


def say_same(book, name, other):
    """`same NAME OTHER`."""
    return "yes" if book.row_of(name) == book.row_of(other) else "no"


def say_between(book, name, other):
    """`between NAME OTHER`."""
    return number_or(move_between(book.row_of(name), book.row_of(other)), "never")


def say_unlike(book, name, other):
    """`unlike NAME OTHER`."""
    return number_or(first_unlike(book.row_of(name), book.row_of(other)), "never")


def say_dyes(book, name, other):
    """`dyes NAME OTHER`."""
    told = fewest_dyes(book.row_of(name), book.row_of(other))
    if told is None:
        return "never"
    dyes, move = told
    return " ".join([f"{shade}>{dye}" for shade, dye in dyes] + [str(move)])


ANSWERS = {
    "put": say_put, "take": say_take, "undo": say_undo, "turn": say_turn, "move": say_move, "each": say_each,
    "lay": say_lay, "turns": say_turns, "names": say_names, "show": say_show, "text": say_text, "long": say_long,
    "at": say_at, "many": say_many, "mirror": say_mirror, "same": say_same, "between": say_between,
    "unlike": say_unlike, "dyes": say_dyes,
}
# For each word behind the first one w where it is taken as it stands, n where it should be a number.
WANTED = {
    "put": "ww", "take": "w", "undo": "", "turn": "ww", "move": "wwn", "each": "wwn", "lay": "wwww", "turns": "www",
    "names": "", "show": "w", "text": "w", "long": "w", "at": "wn", "many": "wwnn", "mirror": "w", "same": "ww",
    "between": "ww", "unlike": "ww", "dyes": "ww",
}


def words_of(row):
    """The words of a row; what follows the name in `put` is one, blanks and all."""
    if row.startswith("put "):
        return row.split(" ", 2)
    return row.split(" ")


def argument(word, wanted):
    """What a word hands in: itself, or the number that it tells."""
    if wanted == "w":
        return word
    number = number_of(word)
    if number is None:
        raise NoOrder("this is no number")
    return number


class Desk:
    """A desk with a book."""

    def __init__(self):
        self.book = Book()

    def say(self, row):
        """The answer to a row of words."""
        if not isinstance(row, str):
            raise NoOrder("this is no text")
        words = words_of(row)
        if words[0] not in WANTED or len(words) != 1 + len(WANTED[words[0]]):
            raise NoOrder("these are no words of the desk")
        arguments = [argument(word, wanted) for word, wanted in zip(words[1:], WANTED[words[0]])]
        answer = ANSWERS[words[0]]
        return answer(self.book, *arguments)
