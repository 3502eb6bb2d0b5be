"""Rows read from texts and written."""

from stripelay.errors import NoText, TooLong
from stripelay.figures import number_of
from stripelay.rows import Row, is_manner
from stripelay.spots import is_spot
from stripelay.stripes import first_wrong, stripe_words


def stripe_of(word):
    """The shade and the number that a word is put together from; they may be no stripe."""
    shade = word.rstrip("0123456789")
    return (shade, number_of(word[len(shade):]))


def leading_stripes(words):
    """The stripes that words begin with, up to the first that can't stand."""
    told = tuple([stripe_of(word) for word in words])
    wrong = first_wrong(told)
    return told if wrong is None else told[:wrong]


def first_wrong_word(words, many):
    """The number of the first word that can't stand or is wanting, behind so many stripes, or None."""
    if many == 0:
        return 0
    if len(words) > many and not is_manner(words[many]):
        return many
    if len(words) > many + 1 and not is_spot(number_of(words[many + 1])):
        return many + 1
    if len(words) > many + 2:
        return many + 2
    return None


def row_of_words(words, line):
    """The row that a list of words tells; a refusal names the line that they stand in."""
    stripes = leading_stripes(words)
    many = len(stripes)
    wrong = first_wrong_word(words, many)
    if wrong is not None:
        raise NoText(line, wrong)
    manner = words[many] if len(words) > many else "run"
    start = number_of(words[many + 1]) if len(words) > many + 1 else 0
    try:
        return Row(stripes, manner, start)
    except TooLong:
        raise NoText(line, len(words)) from None


def read_row(text):
    """The row that a text tells."""
    if not isinstance(text, str):
        raise NoText(0, None)
    return row_of_words(text.split(" "), 0)


def show_row(row):
    """The stripes of a row's threads, written."""
    return " ".join(stripe_words(row.threads()))
