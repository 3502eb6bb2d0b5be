"""Books that keep rows by names."""

from stripelay.errors import NoName, NoUndo, TooMany
from stripelay.moves import sorted_by, text_of
from stripelay.stripes import are_letters

MOST_ROWS = 12
LONGEST_NAME = 8


def check_name(thing):
    """Refuse what, of any kind, is no name."""
    if not are_letters(thing, LONGEST_NAME):
        raise NoName(thing)


class Book:
    """At most twelve rows by names, and what was put and taken."""

    def __init__(self):
        self.kept = {}
        # For each put and take that isn't undone the name, and the row that stood there ahead of it, or None.
        self.past = []

    def put(self, name, row):
        """Put a row by a name, in the place of one that stands there."""
        check_name(name)
        if name not in self.kept and len(self.kept) >= MOST_ROWS:
            raise TooMany("the book is full")
        self.past.append((name, self.kept.get(name)))
        self.kept[name] = row

    def take(self, name):
        """Take out the row that stands by a name."""
        self.past.append((name, self.row_of(name)))
        del self.kept[name]

    def undo(self):
        """Undo the last put or take that isn't undone."""
        if len(self.past) == 0:
            raise NoUndo("nothing is left to undo")
        name, row = self.past.pop()
        if row is None:
            del self.kept[name]
        else:
            self.kept[name] = row

    def names(self):
        """The names, rising."""
        return sorted(list(self.kept))

    def row_of(self, name):
        """The row that stands by a name."""
        check_name(name)
        if name not in self.kept:
            raise NoName(name)
        return self.kept[name]

    def in_order(self, key=None, falling=False):
        """The names by a key of their rows, rising or falling; of the same keys by names, rising."""
        deed = text_of if key is None else key
        return sorted_by(self.names(), lambda name: deed(self.kept[name]), falling)

    def groups(self):
        """Tuples of the names of rows that are one, each rising, by their first ones."""
        by_text = {}
        for name in self.names():
            # Rows are one just where their texts are the same.
            by_text.setdefault(str(self.kept[name]), []).append(name)
        return [tuple(group) for group in by_text.values()]

    def __len__(self):
        return len(self.kept)
