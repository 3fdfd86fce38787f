"""Collections over an outer structure whose members are removed in the order of their ranks."""

from oncebuilt.held import check_filled, without
from oncebuilt.outer import Outer, plan_pops, plan_pushes
from oncebuilt.plans import check_integer, lowest_power


class Ranked:
    """A collection from which the member with the greatest rank, and of these the oldest, is removed."""

    NAME = "Ranked"

    def __init__(self, push, pop, ask):
        self.outer = Outer(push, pop, ask)
        self.given = 0
        # Both have the numbers of the present members, in ascending order; replaced, never changed.
        self.held = {}
        self.ranks = {}
        # How many members were removed since the collection was last empty.
        self.removals = 0

    def add(self, member, *, rank=0):
        """Add a member and return its number."""
        self.outer.check()
        check_integer(rank)
        number = self.given
        held = {**self.held, number: member}
        self.outer.change([("push", number)], held)
        self.held = held
        self.ranks = {**self.ranks, number: int(rank)}
        self.given = number + 1
        return number

    def first(self):
        """Return the number of the member that precedes all others."""
        self.outer.check()
        check_filled(self.held)
        return precedence(self)[0]

    def remove_first(self):
        """Remove the member that precedes all others, and return its number."""
        self.outer.check()
        check_filled(self.held)
        number = precedence(self)[0]
        self.outer.change(plan_removal(self), self.held)
        self.held = without(self.held, [number])
        self.ranks = without(self.ranks, [number])
        self.removals += 1
        if len(self.held) == 0:
            self.removals = 0
        return number

    def query(self, question):
        """Return the answer of the present members."""
        self.outer.check()
        return self.outer.answer(question)

    def members(self):
        """Return the list of the present members, in the order of their numbers."""
        return list(self.held.values())

    def pairs(self):
        """Yield the tuples (number, member) of the present members, in the order of the numbers."""
        for number, member in self.held.items():
            yield (number, member)

    def numbers(self):
        """Return the list of the numbers of the present members, in ascending order."""
        self.outer.check()
        return list(self.held)

    def stack(self):
        """Return the list of the numbers of the inserted members, the first inserted one first."""
        self.outer.calls.check()
        return list(self.outer.order)

    def plan_add(self):
        """Return what the next addition adds to the log."""
        self.outer.check()
        return [("push", self.given)]

    def plan_remove(self):
        """Return what the next removal adds to the log."""
        self.outer.check()
        check_filled(self.held)
        return plan_removal(self)

    def log(self):
        """Return the list of the calls of callables that have returned."""
        return list(self.outer.calls.entries)

    def mend(self, push, pop, ask):
        """Push the members into an empty outer structure, whose callables are used from now on."""
        self.outer.restore(push, pop, ask, self.held)

    @property
    def torn(self):
        """Whether the outer structure is in an unknown state."""
        return self.outer.broken

    def __len__(self):
        return len(self.held)

    def __repr__(self):
        return f"{self.NAME}({len(self.held)})"


def precedence(ranked):
    """Return the numbers of the present members, each one before those that it precedes."""
    ranks = ranked.ranks
    return sorted(list(ranks), key=lambda number: (-ranks[number], number))


def plan_removal(ranked):
    """Return the entries that removing the member that precedes all others adds to the log."""
    # So many members come to the top of the stack that the next removals find theirs there.
    needed = precedence(ranked)[:lowest_power(ranked.removals + 1)]
    order = ranked.outer.order
    lowest = min([order.index(number) for number in needed])
    popped = order[lowest:]
    others = [number for number in popped if number not in needed]
    return plan_pops(popped) + plan_pushes(others) + plan_pushes(list(reversed(needed[1:])))
