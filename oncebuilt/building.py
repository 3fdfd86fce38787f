"""Rows of blocks that are built from lists.

A row is a list of parts. A part is a tuple (numbers, block): the numbers of the members in a block,
a tuple, and the block. The numbers of parts are marked in log entries by what stands in the mark.
"""

from oncebuilt.plans import block_sizes, exponent


class Builder:
    """The callable by which one collection builds its blocks."""

    def __init__(self, calls, build):
        self.calls = calls
        self.build_call = build

    def part(self, numbers, held, mark=()):
        """Build a block of the held members with these numbers, and return it as a part."""
        entry = build_entry(numbers, mark)
        block = self.calls.run(entry, self.build_call, [held[number] for number in numbers])
        return (numbers, block)

    def row(self, numbers, held, mark=()):
        """Return a row of the held members with these numbers, built from nothing."""
        return [self.part(some, held, mark) for some in split_numbers(numbers)]

    def grown_row(self, parts, many, number, held, mark=()):
        """Return the row of this many members after one more."""
        kept, numbers = growth(parts, many, number)
        return parts[:kept] + [self.part(numbers, held, mark)]


def growth(parts, many, number):
    """Return how many parts of a row of this many members stay after one more, and its block's numbers.

    many counts the members for which a row has its size, also those that are no longer in a part.
    """
    kept = len(parts) - exponent(many + 1)
    numbers = []
    for some, block in parts[kept:]:
        numbers.extend(some)
    return (kept, (*numbers, number))


def split_numbers(numbers):
    """Return the tuples of the numbers in the blocks of a row that is built from nothing."""
    found = []
    first = 0
    for size in block_sizes(len(numbers)):
        found.append(tuple(numbers[first:first + size]))
        first += size
    return found


def build_entry(numbers, mark=()):
    """Return the log entry of a block of these numbers."""
    return ("build", *mark, numbers)


def plan_row(numbers, mark=()):
    """Return the entries that building a row of these numbers adds to the log."""
    return [build_entry(some, mark) for some in split_numbers(numbers)]


def plan_growth(parts, many, number, mark=()):
    """Return the entries that one more member of a row adds to the log."""
    kept, numbers = growth(parts, many, number)
    return [build_entry(numbers, mark)]
