"""Collections of members in blocks that are built from a list."""

from oncebuilt.asking import Asker, plan_answer
from oncebuilt.calls import Calls
from oncebuilt.plans import block_sizes, exponent, lowest_power


class Blocks:
    """A collection that grows, in blocks whose sizes are different powers of two."""

    NAME = "Blocks"

    def __init__(self, build, ask, join, *, zero=None):
        self.build_call = build
        self.calls = Calls()
        self.asker = Asker(self.calls, ask, join, zero)
        # These two lists are replaced, never changed: so versions and branches can share them.
        self.held = []
        self.parts = []

    @classmethod
    def of(cls, members, build, ask, join, *, zero=None):
        """Return a collection of the members of a list."""
        blocks = cls(build, ask, join, zero=zero)
        held = list(members)
        parts = []
        first = 0
        for size in block_sizes(len(held)):
            parts.append(built_part(blocks, held, first, size))
            first += size
        blocks.held = held
        blocks.parts = parts
        return blocks

    def add(self, member):
        """Add a member and return its number."""
        self.calls.check()
        number = len(self.held)
        held = self.held + [member]
        first, size = last_block(number + 1)
        part = built_part(self, held, first, size)
        kept = len(self.parts) - exponent(number + 1)
        self.parts = self.parts[:kept] + [part]
        self.held = held
        return number

    def add_all(self, *members):
        """Add members one by one and return the list of their numbers."""
        self.calls.check()
        return [self.add(member) for member in members]

    def query(self, question):
        """Return the answer of the present members, or zero without members."""
        self.calls.check()
        return self.asker.answer(self.parts, question)

    def members(self):
        """Return the list of the members, in the order of their numbers."""
        return list(self.held)

    def pairs(self):
        """Yield the tuples (number, member), in the order of the numbers."""
        for number, member in enumerate(self.held):
            yield (number, member)

    def sizes(self):
        """Return the list of the sizes of the blocks."""
        self.calls.check()
        return [len(numbers) for numbers, block in self.parts]

    def plan_add(self):
        """Return what the next addition adds to the log."""
        self.calls.check()
        first, size = last_block(len(self.held) + 1)
        return [build_entry(first, size)]

    def plan_query(self):
        """Return what the next question adds to the log."""
        self.calls.check()
        return plan_answer(self.parts)

    def log(self):
        """Return the list of the calls of callables that have returned."""
        return list(self.calls.entries)

    def version(self):
        """Return the collection at this moment, which cannot change."""
        self.calls.check()
        asker = self.asker
        return Version(self.held, self.parts, asker.ask_call, asker.join_call, asker.zero)

    def branch(self):
        """Return a new Blocks with the same members and blocks that changes independently."""
        self.calls.check()
        asker = self.asker
        blocks = Blocks(self.build_call, asker.ask_call, asker.join_call, zero=asker.zero)
        blocks.held = self.held
        blocks.parts = self.parts
        return blocks

    def __len__(self):
        return len(self.held)

    def __repr__(self):
        return f"{self.NAME}({len(self.held)})"


class Version:
    """A Blocks at one moment: it has its own log, and its members and parts are never replaced."""

    NAME = "Version"

    def __init__(self, held, parts, ask, join, zero):
        self.calls = Calls()
        self.asker = Asker(self.calls, ask, join, zero)
        self.held = held
        self.parts = parts

    def query(self, question):
        """Return the answer of the members, or zero without members."""
        self.calls.check()
        return self.asker.answer(self.parts, question)

    def members(self):
        """Return the list of the members, in the order of their numbers."""
        return list(self.held)

    def pairs(self):
        """Yield the tuples (number, member), in the order of the numbers."""
        for number, member in enumerate(self.held):
            yield (number, member)

    def plan_query(self):
        """Return what the next question adds to the log."""
        self.calls.check()
        return plan_answer(self.parts)

    def log(self):
        """Return the list of the calls of callables that have returned."""
        return list(self.calls.entries)

    def __len__(self):
        return len(self.held)

    def __repr__(self):
        return f"{self.NAME}({len(self.held)})"


def last_block(many):
    """Return the first number in the last block of this many members, at least one, and its size."""
    size = lowest_power(many)
    return (many - size, size)


def build_entry(first, size):
    """Return the log entry of a block of consecutive numbers."""
    return ("build", tuple(range(first, first + size)))


def built_part(blocks, held, first, size):
    """Build a block of consecutive numbers, and return it as a part."""
    entry = build_entry(first, size)
    block = blocks.calls.run(entry, blocks.build_call, held[first:first + size])
    return (entry[1], block)
