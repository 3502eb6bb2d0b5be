"""Whole numbers written in figures."""

# As many as BIG has: no spot and no COUNT has more.
MOST_FIGURES = 31


def are_figures(text):
    """True where a text is figures without noughts ahead, but 0 itself."""
    if not 1 <= len(text) <= MOST_FIGURES or not all(["0" <= sign <= "9" for sign in text]):
        return False
    return text == "0" or text[0] != "0"


def number_of(text):
    """The number that a text of figures, perhaps with - ahead, tells, or None where it tells none."""
    if not are_figures(text.removeprefix("-")) or text == "-0":
        return None
    return int(text)
