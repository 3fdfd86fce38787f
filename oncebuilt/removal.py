"""Collections in blocks whose members can be removed again."""

from oncebuilt.asking import Asker, plan_answer
from oncebuilt.building import Builder, plan_growth, plan_row
from oncebuilt.calls import Calls
from oncebuilt.errors import NoMember
from oncebuilt.held import without
from oncebuilt.plans import is_integer

# The marks of the two rows of a Cancelling in its log.
PRESENT_ROW = (0,)
REMOVED_ROW = (1,)


class Cancelling:
    """A collection with a second row of blocks, whose answer is taken away from that of the first."""

    NAME = "Cancelling"

    def __init__(self, build, ask, join, unjoin, *, zero=None):
        self.calls = Calls()
        self.builder = Builder(self.calls, build)
        self.asker = Asker(self.calls, ask, join, zero)
        self.unjoin_call = unjoin
        self.given = 0
        # All of these are replaced, never changed: an error in a callable leaves them as they are.
        # held has the present members by their numbers, known also the removed ones that blocks contain.
        self.held = {}
        self.known = {}
        self.parts = []
        self.removed_parts = []

    def add(self, member):
        """Add a member and return its number."""
        self.calls.check()
        number = self.given
        known = {**self.known, number: member}
        self.parts = self.builder.grown_row(self.parts, len(self.known), number, known, PRESENT_ROW)
        self.known = known
        self.held = {**self.held, number: member}
        self.given = number + 1
        return number

    def remove(self, number):
        """Remove the member with this number."""
        self.calls.check()
        gone = present_number(self.held, number)
        held = without(self.held, [gone])
        if is_rebuilt(len(self.known), len(held)):
            self.parts = self.builder.row(list(held), held, PRESENT_ROW)
            self.removed_parts = []
            self.known = held
        else:
            many = count_removed(self)
            self.removed_parts = self.builder.grown_row(self.removed_parts, many, gone, self.known, REMOVED_ROW)
        self.held = held

    def query(self, question):
        """Return the answer of the present members, or zero without members."""
        self.calls.check()
        whole = self.asker.answer(self.parts, question, PRESENT_ROW)
        if count_removed(self) == 0:
            return whole
        part = self.asker.answer(self.removed_parts, question, REMOVED_ROW)
        return self.calls.run(unjoin_entry(self), self.unjoin_call, whole, part)

    def members(self):
        """Return the list of the present members, in the order of their numbers."""
        return list(self.held.values())

    def pairs(self):
        """Yield the tuples (number, member) of the present members, in the order of the numbers."""
        for number, member in self.held.items():
            yield (number, member)

    def numbers(self):
        """Return the list of the numbers of the present members, in ascending order."""
        self.calls.check()
        return list(self.held)

    def plan_add(self):
        """Return what the next addition adds to the log."""
        self.calls.check()
        return plan_growth(self.parts, len(self.known), self.given, PRESENT_ROW)

    def plan_remove(self, number):
        """Return what the removal of the member with this number adds to the log."""
        self.calls.check()
        gone = present_number(self.held, number)
        held = without(self.held, [gone])
        if is_rebuilt(len(self.known), len(held)):
            return plan_row(list(held), PRESENT_ROW)
        return plan_growth(self.removed_parts, count_removed(self), gone, REMOVED_ROW)

    def plan_query(self):
        """Return what the next question adds to the log."""
        self.calls.check()
        entries = plan_answer(self.parts, PRESENT_ROW)
        if count_removed(self) == 0:
            return entries
        return entries + plan_answer(self.removed_parts, REMOVED_ROW) + [unjoin_entry(self)]

    def log(self):
        """Return the list of the calls of callables that have returned."""
        return list(self.calls.entries)

    def __len__(self):
        return len(self.held)

    def __repr__(self):
        return f"{self.NAME}({len(self.held)})"


class Dropping:
    """A collection whose blocks are replaced by ones without a removed member."""

    NAME = "Dropping"

    def __init__(self, build, ask, join, drop, *, zero=None):
        self.calls = Calls()
        self.builder = Builder(self.calls, build)
        self.asker = Asker(self.calls, ask, join, zero)
        self.drop_call = drop
        self.given = 0
        # The number of members in the blocks since they were rebuilt, removed ones included.
        self.added = 0
        # Both are replaced, never changed: an error in a callable leaves them as they are.
        # held has the present members by their numbers; a part without numbers is an empty block.
        self.held = {}
        self.parts = []

    def add(self, member):
        """Add a member and return its number."""
        self.calls.check()
        number = self.given
        held = {**self.held, number: member}
        self.parts = self.builder.grown_row(self.parts, self.added, number, held)
        self.added += 1
        self.held = held
        self.given = number + 1
        return number

    def remove(self, number):
        """Remove the member with this number."""
        self.calls.check()
        gone = present_number(self.held, number)
        held = without(self.held, [gone])
        if is_rebuilt(self.added, len(held)):
            self.parts = self.builder.row(list(held), held)
            self.added = len(held)
        else:
            self.parts = dropped_parts(self, gone)
        self.held = held

    def query(self, question):
        """Return the answer of the present members, or zero without members."""
        self.calls.check()
        return self.asker.answer(filled_parts(self.parts), question)

    def members(self):
        """Return the list of the present members, in the order of their numbers."""
        return list(self.held.values())

    def pairs(self):
        """Yield the tuples (number, member) of the present members, in the order of the numbers."""
        for number, member in self.held.items():
            yield (number, member)

    def numbers(self):
        """Return the list of the numbers of the present members, in ascending order."""
        self.calls.check()
        return list(self.held)

    def plan_add(self):
        """Return what the next addition adds to the log."""
        self.calls.check()
        return plan_growth(self.parts, self.added, self.given)

    def plan_remove(self, number):
        """Return what the removal of the member with this number adds to the log."""
        self.calls.check()
        gone = present_number(self.held, number)
        held = without(self.held, [gone])
        if is_rebuilt(self.added, len(held)):
            return plan_row(list(held))
        numbers = self.parts[place_of(self.parts, gone)][0]
        return plan_drop(numbers, gone)

    def plan_query(self):
        """Return what the next question adds to the log."""
        self.calls.check()
        return plan_answer(filled_parts(self.parts))

    def log(self):
        """Return the list of the calls of callables that have returned."""
        return list(self.calls.entries)

    def __len__(self):
        return len(self.held)

    def __repr__(self):
        return f"{self.NAME}({len(self.held)})"


def present_number(held, number):
    """Return the number as a plain integer; raise NoMember if it is not that of a held member."""
    # Any object may be passed, so it is not looked up before it is known to be an integer.
    if not is_integer(number) or int(number) not in held:
        raise NoMember(number)
    return int(number)


def is_rebuilt(added, present):
    """Tell whether a removal that leaves so many present members of those added rebuilds the blocks."""
    return 2 * (added - present) >= added


def count_removed(cancelling):
    """Return how many members in the blocks of a Cancelling are removed."""
    return len(cancelling.known) - len(cancelling.held)


def unjoin_entry(cancelling):
    """Return the log entry of the call of unjoin in a question."""
    return ("unjoin", len(cancelling.known), count_removed(cancelling))


def filled_parts(parts):
    """Return the parts that are not empty."""
    return [(numbers, block) for numbers, block in parts if len(numbers) > 0]


def place_of(parts, number):
    """Return the index of the part that contains the number."""
    places = [at for at, (numbers, block) in enumerate(parts) if number in numbers]
    return places[0]


def plan_drop(numbers, number):
    """Return the entries that taking a number out of a block of these numbers adds to the log."""
    if len(numbers) == 1:
        return []
    return [("drop", numbers, number)]


def dropped_parts(dropping, number):
    """Return the parts of a Dropping without the member with this number."""
    at = place_of(dropping.parts, number)
    numbers, block = dropping.parts[at]
    rest = tuple([one for one in numbers if one != number])
    # An empty block is never asked, so there is nothing to keep of it.
    fewer = None
    if len(rest) > 0:
        fewer = dropping.calls.run(("drop", numbers, number), dropping.drop_call, block, dropping.held[number])
    return dropping.parts[:at] + [(rest, fewer)] + dropping.parts[at + 1:]
