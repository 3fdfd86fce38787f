"""Collections of members in blocks that are built from a list."""

from oncebuilt.asking import Asker, plan_answer
from oncebuilt.building import Builder, plan_growth
from oncebuilt.calls import Calls


class Blocks:
    """A collection that grows, in blocks whose sizes are different powers of two."""

    NAME = "Blocks"

    def __init__(self, build, ask, join, *, zero=None):
        self.calls = Calls()
        self.builder = Builder(self.calls, build)
        self.asker = Asker(self.calls, ask, join, zero)
        # These two lists are replaced, never changed: so versions and branches can share them.
        self.held = []
        self.parts = []

    @classmethod
    def of(cls, members, build, ask, join, *, zero=None):
        """Return a collection of the members of a list."""
        blocks = cls(build, ask, join, zero=zero)
        held = list(members)
        blocks.parts = blocks.builder.row(list(range(len(held))), held)
        blocks.held = held
        return blocks

    def add(self, member):
        """Add a member and return its number."""
        self.calls.check()
        number = len(self.held)
        held = self.held + [member]
        self.parts = self.builder.grown_row(self.parts, number, number, held)
        self.held = held
        return number

    def add_all(self, *members):
        """Add members one by one and return the list of their numbers."""
        self.calls.check()
        return [self.add(member) for member in members]

    def query(self, question):
        """Return the answer of the present members, or zero without members."""
        self.calls.check()
        return self.asker.answer(self.parts, question)

    def members(self):
        """Return the list of the members, in the order of their numbers."""
        return list(self.held)

    def pairs(self):
        """Yield the tuples (number, member), in the order of the numbers."""
        for number, member in enumerate(self.held):
            yield (number, member)

    def sizes(self):
        """Return the list of the sizes of the blocks."""
        self.calls.check()
        return [len(numbers) for numbers, block in self.parts]

    def plan_add(self):
        """Return what the next addition adds to the log."""
        self.calls.check()
        many = len(self.held)
        return plan_growth(self.parts, many, many)

    def plan_query(self):
        """Return what the next question adds to the log."""
        self.calls.check()
        return plan_answer(self.parts)

    def log(self):
        """Return the list of the calls of callables that have returned."""
        return list(self.calls.entries)

    def version(self):
        """Return the collection at this moment, which cannot change."""
        self.calls.check()
        asker = self.asker
        return Version(self.held, self.parts, asker.ask_call, asker.join_call, asker.zero)

    def branch(self):
        """Return a new Blocks with the same members and blocks that changes independently."""
        self.calls.check()
        asker = self.asker
        blocks = Blocks(self.builder.build_call, asker.ask_call, asker.join_call, zero=asker.zero)
        blocks.held = self.held
        blocks.parts = self.parts
        return blocks

    def __len__(self):
        return len(self.held)

    def __repr__(self):
        return f"{self.NAME}({len(self.held)})"


class Version:
    """A Blocks at one moment: it has its own log, and its members and parts are never replaced."""

    NAME = "Version"

    def __init__(self, held, parts, ask, join, zero):
        self.calls = Calls()
        self.asker = Asker(self.calls, ask, join, zero)
        self.held = held
        self.parts = parts

    def query(self, question):
        """Return the answer of the members, or zero without members."""
        self.calls.check()
        return self.asker.answer(self.parts, question)

    def members(self):
        """Return the list of the members, in the order of their numbers."""
        return list(self.held)

    def pairs(self):
        """Yield the tuples (number, member), in the order of the numbers."""
        for number, member in enumerate(self.held):
            yield (number, member)

    def plan_query(self):
        """Return what the next question adds to the log."""
        self.calls.check()
        return plan_answer(self.parts)

    def log(self):
        """Return the list of the calls of callables that have returned."""
        return list(self.calls.entries)

    def __len__(self):
        return len(self.held)

    def __repr__(self):
        return f"{self.NAME}({len(self.held)})"
