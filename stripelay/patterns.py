"""Patterns of rows, whatever their shades."""

from stripelay.rows import begun_at


def numbered(threads):
    """For each thread the number, from 0, by which its shade comes first among them."""
    numbers = {}
    for shade in threads:
        numbers.setdefault(shade, len(numbers))
    return tuple([numbers[shade] for shade in threads])


def pattern(row):
    """The least of the tuples of a round's threads in numbers, by whichever spot it begins."""
    threads = row.threads()
    return min([numbered(begun_at(threads, place)) for place in range(len(threads))])


def one_pattern(row, other):
    """True where one-to-one changes of shades make the rows one."""
    return pattern(row) == pattern(other)
