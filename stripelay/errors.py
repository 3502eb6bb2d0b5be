"""The refusals: five families, each under a class of Python's own.

The messages name no refused thing: it may be of any kind, and it stands in the field.
"""


class StripeError(ValueError):
    """What is told of stripes, threads, rows, texts or orders can't stand."""


class NoStripes(StripeError):
    """The number is that of the first stripe that can't stand, or None."""

    def __init__(self, number):
        StripeError.__init__(self, "these are no stripes")
        self.number = number


class NoThreads(StripeError):
    """Threads are a tuple of one to 240 shades."""


class NoManner(StripeError):
    """A row is laid by one of five manners."""


class TooLong(StripeError):
    """Long is how many threads there would be."""

    def __init__(self, long):
        StripeError.__init__(self, "these are more than 240 threads")
        self.long = long


class NoText(StripeError):
    """Line and word say where a text goes wrong."""

    def __init__(self, line, word):
        StripeError.__init__(self, "this is not so written")
        self.line = line
        self.word = word


class NoNumber(StripeError):
    """The number is none that can stand there."""


class NoBox(StripeError):
    """A box is (X1, Y1, X2, Y2), all spots, X2 no less than X1, Y2 no less than Y1."""


class TooMany(StripeError):
    """A book keeps at most twelve rows."""


class NoUndo(StripeError):
    """There is nothing left to undo."""


class NoOrder(StripeError):
    """A desk does not know these words."""


class SpotError(IndexError):
    """What is told of spots can't stand."""


class NoSpot(SpotError):
    """A spot is a whole number from -BIG to BIG."""

    def __init__(self, spot):
        SpotError.__init__(self, "this is no spot")
        self.spot = spot


class NoCut(SpotError):
    """Nothing can be cut from first to last."""

    def __init__(self, first, last):
        SpotError.__init__(self, "nothing can be cut there")
        self.first = first
        self.last = last


class ShadeError(KeyError):
    """What is told of shades or names can't stand."""


class NoShade(ShadeError):
    """A shade is one to three small letters; some are wanted of a row."""

    def __init__(self, shade):
        ShadeError.__init__(self, "this is no shade here")
        self.shade = shade


class NoName(ShadeError):
    """A name is one to eight small letters; some are wanted of a book."""

    def __init__(self, name):
        ShadeError.__init__(self, "this is no name here")
        self.name = name


class StepError(ZeroDivisionError):
    """What is told of steps can't stand."""


class NoStep(StepError):
    """A step is a whole number from -BIG to BIG, but 0."""

    def __init__(self, step):
        StepError.__init__(self, "this is no step")
        self.step = step


class WayError(LookupError):
    """What is told of ways or weaves can't stand."""


class NoWay(WayError):
    """A cloth is turned by one of eight ways."""

    def __init__(self, way):
        WayError.__init__(self, "this is no way")
        self.way = way


class NoWeave(WayError):
    """A cloth is woven by one of three weaves."""

    def __init__(self, weave):
        WayError.__init__(self, "this is no weave")
        self.weave = weave
