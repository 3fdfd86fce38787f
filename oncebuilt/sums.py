"""Queues whose members are joined themselves, by a join that cannot be undone."""

from oncebuilt.calls import Calls
from oncebuilt.held import check_filled, oldest, without
from oncebuilt.spans import Joiner, Planner, all_spans, deepened, extended, span_length, whole_span


class TwoStacks:
    """A queue with a front and a back, of which the back becomes the front when this is empty."""

    NAME = "TwoStacks"

    def __init__(self, join, *, zero=None):
        self.calls = Calls()
        self.joiner = Joiner(self.calls, join)
        self.zero = zero
        self.given = 0
        # All of these are replaced, never changed: an error in join leaves them as they are.
        # front has the spans of its members to its last one, that of the oldest member last.
        self.held = {}
        self.front = []
        self.back = None

    def add(self, member):
        """Add a member and return its number."""
        self.calls.check()
        number = self.given
        self.back = extended(self.joiner, self.back, number, member)
        self.held = {**self.held, number: member}
        self.given = number + 1
        return number

    def remove_oldest(self):
        """Remove the oldest member and return its number."""
        self.calls.check()
        check_filled(self.held)
        number = oldest(self.held)
        if len(self.front) == 0:
            self.front = all_spans(self.joiner, self.held)
            self.back = None
        self.front = self.front[:-1]
        self.held = without(self.held, [number])
        return number

    def total(self):
        """Return the join of the present members in order, or zero without members."""
        self.calls.check()
        if len(self.held) == 0:
            return self.zero
        return whole_span(self.joiner, filled_spans(self.front, [self.back]))[2]

    def members(self):
        """Return the list of the present members, in the order of their numbers."""
        return list(self.held.values())

    def pairs(self):
        """Yield the tuples (number, member) of the present members, in the order of the numbers."""
        for number, member in self.held.items():
            yield (number, member)

    def numbers(self):
        """Return the list of the numbers of the present members, in ascending order."""
        self.calls.check()
        return list(self.held)

    def plan_add(self):
        """Return what the next addition adds to the log."""
        self.calls.check()
        planner = Planner()
        extended(planner, self.back, self.given, None)
        return planner.entries

    def plan_remove(self):
        """Return what the next removal adds to the log."""
        self.calls.check()
        check_filled(self.held)
        planner = Planner()
        if len(self.front) == 0:
            all_spans(planner, self.held)
        return planner.entries

    def plan_total(self):
        """Return what the next total adds to the log."""
        self.calls.check()
        planner = Planner()
        whole_span(planner, filled_spans(self.front, [self.back]))
        return planner.entries

    def log(self):
        """Return the list of the calls of join that have returned."""
        return list(self.calls.entries)

    def __len__(self):
        return len(self.held)

    def __repr__(self):
        return f"{self.NAME}({len(self.held)})"


class EvenSums:
    """A queue that makes the next front little by little, so that no call of it calls join often."""

    NAME = "EvenSums"

    def __init__(self, join, *, zero=None):
        self.calls = Calls()
        self.joiner = Joiner(self.calls, join)
        self.zero = zero
        self.given = 0
        # All of these are replaced, never changed: an error in join leaves them as they are.
        self.held = {}
        self.shape = Shape([], None, None, None)

    def add(self, member):
        """Add a member and return its number."""
        self.calls.check()
        number = self.given
        held = {**self.held, number: member}
        self.shape = shape_after_addition(self.joiner, self.shape, held, number)
        self.held = held
        self.given = number + 1
        return number

    def remove_oldest(self):
        """Remove the oldest member and return its number."""
        self.calls.check()
        check_filled(self.held)
        number = oldest(self.held)
        held = without(self.held, [number])
        self.shape = shape_after_removal(self.joiner, self.shape, held)
        self.held = held
        return number

    def total(self):
        """Return the join of the present members in order, or zero without members."""
        self.calls.check()
        if len(self.held) == 0:
            return self.zero
        return whole_span(self.joiner, shape_spans(self.shape))[2]

    def members(self):
        """Return the list of the present members, in the order of their numbers."""
        return list(self.held.values())

    def pairs(self):
        """Yield the tuples (number, member) of the present members, in the order of the numbers."""
        for number, member in self.held.items():
            yield (number, member)

    def numbers(self):
        """Return the list of the numbers of the present members, in ascending order."""
        self.calls.check()
        return list(self.held)

    def plan_add(self):
        """Return what the next addition adds to the log."""
        self.calls.check()
        planner = Planner()
        shape_after_addition(planner, self.shape, {**self.held, self.given: None}, self.given)
        return planner.entries

    def plan_remove(self):
        """Return what the next removal adds to the log."""
        self.calls.check()
        check_filled(self.held)
        planner = Planner()
        shape_after_removal(planner, self.shape, without(self.held, [oldest(self.held)]))
        return planner.entries

    def plan_total(self):
        """Return what the next total adds to the log."""
        self.calls.check()
        planner = Planner()
        whole_span(planner, shape_spans(self.shape))
        return planner.entries

    def log(self):
        """Return the list of the calls of join that have returned."""
        return list(self.calls.entries)

    def __len__(self):
        return len(self.held)

    def __repr__(self):
        return f"{self.NAME}({len(self.held)})"


class Shape:
    """How the members of an EvenSums are joined; a shape is replaced, never changed.

    front has the spans of its members to its last one, that of the oldest member last. back is a span,
    and so is late, the second back; both are None if they have no members. renewed is None unless a
    rebuild is running; then it has the new joins that it has found, the spans of members to the last
    one of back, the shortest one first.
    """

    def __init__(self, front, back, late, renewed):
        self.front = front
        self.back = back
        self.late = late
        self.renewed = renewed


def shape_after_addition(joiner, shape, held, number):
    """Return the shape when the last of the held members, which has this number, has been added."""
    back = shape.back
    late = shape.late
    if shape.renewed is None:
        back = extended(joiner, back, number, held[number])
    else:
        late = extended(joiner, late, number, held[number])
    return worked_shape(joiner, Shape(shape.front, back, late, shape.renewed), held)


def shape_after_removal(joiner, shape, held):
    """Return the shape when the member before the held ones has been removed."""
    # A rebuild begins and ends early enough that the front has the oldest member, if there is any.
    return worked_shape(joiner, Shape(shape.front[:-1], shape.back, shape.late, shape.renewed), held)


def worked_shape(joiner, shape, held):
    """Return the shape after the work on a rebuild that follows each addition and removal."""
    renewed = shape.renewed
    if renewed is None and span_length(shape.back) > len(shape.front):
        renewed = []
    if renewed is None:
        return shape
    if not reaches(renewed, oldest(held)):
        number = shape.back[1] - len(renewed) - 1
        renewed = deepened(joiner, renewed, number, held[number])
    if reaches(renewed, oldest(held)):
        return Shape(renewed, shape.late, None, None)
    return Shape(shape.front, shape.back, shape.late, renewed)


def reaches(renewed, number):
    """Tell whether the member with this number is among those that have their new joins."""
    return len(renewed) > 0 and renewed[-1][0] <= number


def shape_spans(shape):
    """Return the spans of all members of a shape, the oldest ones first."""
    return filled_spans(shape.front, [shape.back, shape.late])


def filled_spans(front, backs):
    """Return the span of all members of a front, and those behind it, but for the empty ones."""
    return front[-1:] + [span for span in backs if span is not None]
