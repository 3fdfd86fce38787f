"""Structures that are ready to be used as callables of the collections."""


def sorted_block(integers):
    """Return a block of a list of integers for count_below."""
    return tuple(sorted(integers))


def count_below(block, bound):
    """Return how many of the integers of a block are less than the bound."""
    return count_leading(len(block), lambda at: block[at] < bound)


def lines_block(lines):
    """Return a block of a list of lines (a, b) for least_at.

    The block has the lines that are lower than all others somewhere, in this order from left to right:
    so the greatest a comes first.
    """
    lowest = {}
    for a, b in lines:
        lowest[a] = min(b, lowest.get(a, b))
    kept = []
    for a in sorted(list(lowest), reverse=True):
        line = (a, lowest[a])
        while len(kept) >= 2 and is_hidden(kept[-2], kept[-1], line):
            kept.pop()
        kept.append(line)
    return tuple(kept)


def least_at(block, x):
    """Return the least value of a * x + b over the lines (a, b) of a block."""
    # Along the block the values at x fall up to the least one, and rise after it.
    at = count_leading(len(block) - 1, lambda left: value_at(block[left + 1], x) <= value_at(block[left], x))
    return value_at(block[at], x)


def count_leading(many, holds):
    """Return for how many indexes up to many - 1 something holds that holds for the first ones only."""
    low = 0
    high = many
    while low < high:
        middle = (low + high) // 2
        if holds(middle):
            low = middle + 1
        else:
            high = middle
    return low


def value_at(line, x):
    """Return the value of a line (a, b) at x."""
    return line[0] * x + line[1]


def is_hidden(left, middle, right):
    """Tell whether the middle one of three lines, whose a decreases, is nowhere lower than both others."""
    # It does not become lower than the left one before the right one becomes lower than it. These are
    # two quotients; they are compared without dividing, so that no digit is lost.
    begin = (middle[1] - left[1]) * (middle[0] - right[0])
    end = (right[1] - middle[1]) * (left[0] - middle[0])
    return begin >= end


class Unions:
    """The connected components of the points 0 to many - 1, of which the last connection can be undone."""

    def __init__(self, many):
        self.groups = many
        # Only connected points are written down: the parents of those that are no roots, and the sizes of
        # components by their roots. The root of the smaller component gets the other one as its parent,
        # so paths are short; they are not shortened any further, so a connection can be undone.
        self.parents = {}
        self.counts = {}
        # For each push the root to which it has given a parent, None if it has changed nothing.
        self.moved = []

    def push(self, pair):
        """Connect the two points of a pair."""
        upper = self.root_of(pair[0])
        lower = self.root_of(pair[1])
        if upper == lower:
            self.moved.append(None)
            return
        if self.count_of(upper) < self.count_of(lower):
            upper, lower = lower, upper
        self.counts[upper] = self.count_of(upper) + self.count_of(lower)
        self.parents[lower] = upper
        self.groups -= 1
        self.moved.append(lower)

    def pop(self):
        """Undo the last push that was not undone."""
        lower = self.moved.pop()
        if lower is None:
            return
        upper = self.parents[lower]
        del self.parents[lower]
        self.counts[upper] -= self.count_of(lower)
        self.groups += 1

    def ask(self, question):
        """Answer ("same", a, b), ("size", a) or ("groups",)."""
        if question[0] == "same":
            return self.root_of(question[1]) == self.root_of(question[2])
        if question[0] == "size":
            return self.count_of(self.root_of(question[1]))
        return self.groups

    def root_of(self, point):
        """Return the point that stands for the component of a point."""
        root = point
        while root in self.parents:
            root = self.parents[root]
        return root

    def count_of(self, root):
        """Return the number of points in the component of a root."""
        return self.counts.get(root, 1)


class Span:
    """The sums without carry of integers, of which the last one can be taken out again."""

    def __init__(self):
        # Integers with different bit lengths, by these, whose sums are those of all inserted ones.
        self.basis = {}
        # For each push the bit length that it has added to the basis, 0 if it has added none.
        self.lengths = []

    def push(self, integer):
        """Insert a non-negative integer."""
        rest = self.reduced(integer)
        if rest > 0:
            self.basis[rest.bit_length()] = rest
        self.lengths.append(rest.bit_length())

    def pop(self):
        """Undo the last push that was not undone."""
        length = self.lengths.pop()
        if length > 0:
            del self.basis[length]

    def ask(self, question):
        """Answer ("rank",) or ("holds", integer)."""
        if question[0] == "holds":
            return self.reduced(question[1]) == 0
        return len(self.basis)

    def reduced(self, integer):
        """Return what is left of an integer when the basis is taken out: 0 if it is a sum of inserted ones."""
        rest = integer
        # No sum is negative, so of a negative integer all is left.
        while rest > 0 and rest.bit_length() in self.basis:
            rest ^= self.basis[rest.bit_length()]
        return rest
