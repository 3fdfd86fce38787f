"""Spans of members that are joined themselves.

A span is a tuple (first, end, value): the value is the join of the members with the numbers from first
to end - 1, and that of one member the member itself.
"""


class Joiner:
    """The callable by which one collection joins its members."""

    def __init__(self, calls, join):
        self.calls = calls
        self.join_call = join

    def joined(self, one, other):
        """Return the span of a span and the one behind it."""
        value = self.calls.run(join_entry(one, other), self.join_call, one[2], other[2])
        return (one[0], other[1], value)


class Planner:
    """Takes the place of a Joiner to find out which entries it would log; it calls nothing."""

    def __init__(self):
        self.entries = []

    def joined(self, one, other):
        """Return the span of a span and the one behind it, without its value."""
        self.entries.append(join_entry(one, other))
        return (one[0], other[1], None)


def join_entry(one, other):
    """Return the log entry of joining a span and the one behind it."""
    return ("join", (one[0], one[1]), (other[0], other[1]))


def single(number, member):
    """Return the span of one member."""
    return (number, number + 1, member)


def span_length(span):
    """Return the number of members in a span, which is None if there are none."""
    if span is None:
        return 0
    return span[1] - span[0]


def extended(joiner, span, number, member):
    """Return a span, which is None if it has no members, with the member that comes next."""
    if span is None:
        return single(number, member)
    return joiner.joined(span, single(number, member))


def deepened(joiner, spans, number, member):
    """Return spans that end at the same member, the shortest one first, with one that begins a member earlier."""
    alone = single(number, member)
    if len(spans) == 0:
        return [alone]
    return spans + [joiner.joined(alone, spans[-1])]


def all_spans(joiner, held):
    """Return the spans from each of the held members to the newest one, the shortest one first."""
    spans = []
    for number, member in reversed(list(held.items())):
        spans = deepened(joiner, spans, number, member)
    return spans


def whole_span(joiner, spans):
    """Return the span of all these spans, each of which begins where the one before it ends."""
    whole = None
    for span in spans:
        if whole is None:
            whole = span
        else:
            whole = joiner.joined(whole, span)
    return whole
