"""[2], [3], [4] and the interface, over the whole program."""

import importlib
import inspect
import itertools
import unittest

from things import BIG

from stripelay import errors
from stripelay.amounts import amount, how_many, in_round, nth
from stripelay.beside import first_meeting, first_unlike
from stripelay.books import Book
from stripelay.cloths import Cloth
from stripelay.clothtexts import read_cloth, show_cloth
from stripelay.desk import Desk
from stripelay.dyes import dyed, fewest_dyes
from stripelay.fits import fits, goes_on
from stripelay.laying import by_turns, laid
from stripelay.mirrors import least_telling, mirror
from stripelay.moves import move_between, ordered
from stripelay.parts import can_be, enough
from stripelay.patterns import one_pattern, pattern
from stripelay.pieces import Piece, cut
from stripelay.rows import Row
from stripelay.rowtexts import read_row, show_row
from stripelay.steps import each, step_back
from stripelay.stripes import are_stripes, is_shade, stripes_of, threads_of
from stripelay.ways import behind, ways_between
from stripelay.weaves import all_seen, seen, top

# Each as the interface writes it.
FUNCTIONS = {
    "stripes": ("is_shade(thing)", "are_stripes(thing)", "threads_of(stripes)", "stripes_of(threads)"),
    "rowtexts": ("read_row(text)", "show_row(row)"),
    "clothtexts": ("read_cloth(text)", "show_cloth(cloth)"),
    "moves": ("move_between(row, other)", "ordered(rows, key=None, falling=False)"),
    "amounts": ("amount(row, shade, first=0, last=None)", "how_many(row, first=0, last=None, deed=None)",
                "nth(row, shade, number, first=0)", "in_round(row)"),
    "mirrors": ("mirror(row)", "least_telling(row)"),
    "pieces": ("cut(row, first, last)",),
    "fits": ("fits(row, piece)", "goes_on(row, piece, other, gap=0)"),
    "parts": ("can_be(piece, most=None)", "enough(row, most)"),
    "beside": ("first_unlike(row, other, first=0)", "first_meeting(row, shade, other, second, first=0)"),
    "laying": ("laid(row, other, clear)", "by_turns(row, other)"),
    "steps": ("each(row, step)", "step_back(row, step)"),
    "ways": ("behind(way, other)", "ways_between(cloth, other)"),
    "weaves": ("top(cloth, x, y, weave='plain')", "seen(cloth, shade, box, weave='plain')", "all_seen(cloth, box, weave='plain')"),
    "dyes": ("dyed(row, deed)", "fewest_dyes(row, other)"),
    "patterns": ("pattern(row)", "one_pattern(row, other)"),
}
CLASSES = {
    ("rows", "Row"): ("__init__(self, stripes, manner='run', start=0)", "at(self, spot)", "threads(self)", "shades(self)", "moved(self, by)",
                      "turned(self)", "alike(self, other)", "__len__(self)", "__eq__(self, other)", "__str__(self)", "__repr__(self)"),
    ("pieces", "Piece"): ("__init__(self, threads)", "threads(self)", "joined(self, other)", "__len__(self)", "__eq__(self, other)",
                          "__str__(self)", "__repr__(self)"),
    ("cloths", "Cloth"): ("__init__(self, warp, weft)", "warp_row(self)", "weft_row(self)", "pair(self, x, y)", "turned(self, way)",
                          "__eq__(self, other)", "__str__(self)", "__repr__(self)"),
    ("books", "Book"): ("__init__(self)", "put(self, name, row)", "take(self, name)", "undo(self)", "names(self)", "row_of(self, name)",
                        "in_order(self, key=None, falling=False)", "groups(self)", "__len__(self)"),
    ("desk", "Desk"): ("__init__(self)", "say(self, row)"),
}


class Interface(unittest.TestCase):
    def test_functions_with_their_arguments(self):
        for module, functions in FUNCTIONS.items():
            for told in functions:
                name = told.partition("(")[0]
                function = vars(importlib.import_module(f"stripelay.{module}"))[name]
                self.assertEqual(name + str(inspect.signature(function)), told)

    def test_classes_with_methods_of_their_own(self):
        for (module, name), methods in CLASSES.items():
            body = vars(vars(importlib.import_module(f"stripelay.{module}"))[name])
            for told in methods:
                method = told.partition("(")[0]
                self.assertIn(method, body, name)
                self.assertEqual(method + str(inspect.signature(body[method])), told)


ROW = read_row("a1 b2 c3 b1 run 3")
OTHER = read_row("b8 w2 fold 3")
PIECE = Piece(("b", "c", "c"))
CLOTH = Cloth(ROW, OTHER)


def lengths(row):
    return len(row)


def lesser(shade):
    return shade == "b"


def all_a(shade):
    return "a"


# Every function with good arguments, by their names.
CALLS = (
    (is_shade, {"thing": "b"}), (are_stripes, {"thing": (("b", 1),)}), (threads_of, {"stripes": (("b", 2), ("w", 1))}),
    (stripes_of, {"threads": ("b", "b", "w")}), (read_row, {"text": "b8 w2 fold 3"}), (show_row, {"row": ROW}),
    (read_cloth, {"text": "warp b8 w2\nweft a1"}), (show_cloth, {"cloth": CLOTH}), (move_between, {"row": ROW, "other": OTHER}),
    (ordered, {"rows": [OTHER, ROW], "key": None, "falling": False}), (ordered, {"rows": [OTHER, ROW], "key": lengths, "falling": True}),
    (amount, {"row": ROW, "shade": "b", "first": 0, "last": None}), (how_many, {"row": ROW, "first": -5, "last": BIG, "deed": lesser}),
    (how_many, {"row": ROW, "first": 0, "last": None, "deed": None}), (nth, {"row": ROW, "shade": "c", "number": 3, "first": 0}),
    (in_round, {"row": ROW}), (mirror, {"row": ROW}), (least_telling, {"row": OTHER}), (cut, {"row": ROW, "first": 2, "last": 9}),
    (fits, {"row": ROW, "piece": PIECE}), (goes_on, {"row": ROW, "piece": PIECE, "other": PIECE, "gap": 4}),
    (can_be, {"piece": PIECE, "most": None}), (can_be, {"piece": PIECE, "most": 3}), (enough, {"row": ROW, "most": 9}),
    (first_unlike, {"row": ROW, "other": OTHER, "first": 0}),
    (first_meeting, {"row": ROW, "shade": "a", "other": OTHER, "second": "w", "first": 0}),
    (laid, {"row": ROW, "other": read_row("d1"), "clear": "c"}), (by_turns, {"row": ROW, "other": read_row("d1")}),
    (each, {"row": ROW, "step": 3}), (step_back, {"row": ROW, "step": 3}), (behind, {"way": "mirror", "other": "swap"}),
    (ways_between, {"cloth": CLOTH, "other": CLOTH}), (top, {"cloth": CLOTH, "x": 1, "y": 2, "weave": "plain"}),
    (seen, {"cloth": CLOTH, "shade": "b", "box": (0, 0, 5, 7), "weave": "plain"}),
    (all_seen, {"cloth": CLOTH, "box": (0, 0, 5, 7), "weave": "plain"}), (dyed, {"row": ROW, "deed": all_a}),
    (fewest_dyes, {"row": ROW, "other": ROW.turned()}), (pattern, {"row": ROW}), (one_pattern, {"row": ROW, "other": OTHER}),
)


def shown(thing):
    """What a told thing is, for comparing: rows, pieces and cloths by each of their threads."""
    if isinstance(thing, (Row, Piece)):
        return (type(thing).__name__, thing.threads())
    if isinstance(thing, Cloth):
        return ("Cloth", shown(thing.warp_row()), shown(thing.weft_row()))
    if isinstance(thing, (list, tuple)):
        return (type(thing).__name__, [shown(part) for part in thing])
    return (type(thing).__name__, thing)


class Calls(unittest.TestCase):
    def test_every_function_is_called(self):
        listed = {told.partition("(")[0] for functions in FUNCTIONS.values() for told in functions}
        self.assertEqual({function.__name__ for function, arguments in CALLS}, listed)

    def test_by_places_and_by_names(self):
        for function, arguments in CALLS:
            told = shown(function(**arguments))
            self.assertEqual(shown(function(*arguments.values())), told, function)
            self.assertEqual(shown(function(**dict(reversed(list(arguments.items()))))), told, function)

    def test_defaults_left_out_or_handed_in(self):
        for function, arguments in CALLS:
            parameters = inspect.signature(function).parameters
            needed = {name: thing for name, thing in arguments.items()
                      if parameters[name].default is inspect.Parameter.empty or thing != parameters[name].default}
            self.assertEqual(shown(function(**needed)), shown(function(**arguments)), function)

    def test_told_the_same_each_time_and_nothing_changed(self):
        before = [shown(thing) for function, arguments in CALLS for thing in arguments.values()]
        first = [shown(function(**arguments)) for function, arguments in CALLS]
        self.assertEqual([shown(function(**arguments)) for function, arguments in CALLS], first)
        self.assertEqual([shown(function(**arguments)) for function, arguments in reversed(CALLS)], first[::-1])
        self.assertEqual([shown(thing) for function, arguments in CALLS for thing in arguments.values()], before)

    def test_lists_and_dicts_are_the_askers_own(self):
        for function, arguments in CALLS:
            told = function(**arguments)
            if isinstance(told, (list, dict)):
                wanted = shown(function(**arguments))
                self.assertTrue(told)
                told.clear()
                self.assertEqual(shown(function(**arguments)), wanted, function)


class Promise(unittest.TestCase):
    """[3] What the parts tell of one another."""

    def setUp(self):
        self.rows = [Row(stripes_of(threads), "run", start) for many in range(1, 5) for start in (0, 1)
                     for threads in itertools.product("abc", repeat=many)]

    def test_one_just_where_texts_are_the_same_and_a_move_is_told(self):
        for row in self.rows[::3]:
            for other in self.rows[::2]:
                one = row == other
                self.assertIs(str(row) == str(other), one)
                self.assertIs(move_between(row, other) is not None, one)
                self.assertIs(first_unlike(row, other) is None, row.alike(other))
                if one:
                    self.assertEqual(fewest_dyes(row, other), ((), move_between(row, other)))
                    self.assertIs(one_pattern(row, other), True)

    def test_what_was_told_may_be_handed_in(self):
        for row in self.rows:
            stripes, manner, start = least_telling(row)
            self.assertTrue(Row(stripes, manner, start).alike(row))
            self.assertTrue(read_row(show_row(row)).alike(row))
            self.assertTrue(read_row(str(row)) == row)
            self.assertTrue(Row(stripes_of(row.threads())).alike(row))
            self.assertEqual(shown(read_cloth(show_cloth(Cloth(row, ROW)))), shown(Cloth(row, ROW)))

    def test_steps_and_turns(self):
        for row in self.rows:
            self.assertTrue(each(row, -1).alike(row.turned()))
            evens, odds = each(row, 2), each(row.moved(-1), 2)
            self.assertTrue(by_turns(evens, odds).alike(row))
            self.assertTrue(laid(row, dyed(row, lambda shade: "d"), "a").alike(dyed(row, lambda shade: "d" if shade == "a" else shade)))

    def test_the_desk_tells_as_the_functions_do(self):
        desk = Desk()
        for row in self.rows[::5]:
            for other in self.rows[::7]:
                desk.say(f"put a {show_row(row)}")
                desk.say(f"put b {show_row(other)}")
                self.assertEqual(desk.say("same a b"), "yes" if row == other else "no")
                self.assertEqual(desk.say("text a"), str(row))
                unlike = first_unlike(row, other)
                self.assertEqual(desk.say("unlike a b"), "never" if unlike is None else str(unlike))
                desk.say("turns n a b")
                self.assertEqual(desk.say("show n"), show_row(by_turns(row, other)))


class Refusals(unittest.TestCase):
    def test_by_one_class_alone(self):
        """Each refusal that the program tells, caught by its own class, its family and Python's, and by no other."""
        families = {"StripeError": ValueError, "SpotError": IndexError, "ShadeError": KeyError, "StepError": ZeroDivisionError,
                    "WayError": LookupError}
        classes = [thing for thing in vars(errors).values() if inspect.isclass(thing) and thing.__name__ not in families]
        book = Book()
        deeds = {
            "NoStripes": lambda: Row(()), "NoThreads": lambda: Piece(()), "NoManner": lambda: Row((("b", 1),), "x"),
            "TooLong": lambda: by_turns(read_row("b120 w1"), ROW), "NoText": lambda: read_row(""), "NoNumber": lambda: enough(ROW, 0),
            "NoBox": lambda: all_seen(CLOTH, None), "TooMany": lambda: [book.put(name, ROW) for name in "abcdefghijklm"],
            "NoUndo": lambda: Book().undo(), "NoOrder": lambda: Desk().say(""), "NoSpot": lambda: ROW.at(None),
            "NoCut": lambda: cut(ROW, 1, 0), "NoShade": lambda: amount(ROW, ""), "NoName": lambda: Book().take("a"),
            "NoStep": lambda: each(ROW, 0), "NoWay": lambda: behind("", ""), "NoWeave": lambda: top(CLOTH, 0, 0, ""),
        }
        self.assertEqual(set(deeds), {refusal.__name__ for refusal in classes})
        for name, deed in deeds.items():
            with self.assertRaises(Exception) as caught:
                deed()
            self.assertEqual([refusal.__name__ for refusal in classes if isinstance(caught.exception, refusal)], [name])
            above = [family for family in families if isinstance(caught.exception, vars(errors)[family])]
            self.assertEqual(len(above), 1)
            self.assertIsInstance(caught.exception, families[above[0]])


if __name__ == "__main__":
    unittest.main()
