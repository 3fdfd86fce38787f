"""Collections over an outer structure whose members leave at ends that are known in advance."""

from oncebuilt.errors import BadNumber
from oncebuilt.held import without
from oncebuilt.outer import Outer, plan_pops, plan_pushes
from oncebuilt.plans import check_integer, piece_size


class Timed:
    """A collection with a clock, whose members are present up to the clock that is told when they are added."""

    NAME = "Timed"
    # The greatest clock at which a member may leave.
    LAST = 1000000000

    def __init__(self, push, pop, ask):
        self.outer = Outer(push, pop, ask)
        self.given = 0
        self.now = 0
        # The present members by their numbers, in ascending order; replaced, never changed.
        self.held = {}
        # For each present member the clock at which it leaves, and that at which its piece ends.
        self.limits = {}
        self.ends = {}

    def add(self, member, *, until):
        """Add a member that leaves at the clock until, and return its number."""
        self.outer.check()
        check_until(until, self.now)
        number = self.given
        held = {**self.held, number: member}
        self.outer.change([("push", number)], held)
        self.held = held
        self.limits[number] = int(until)
        self.ends[number] = self.now + 1
        self.given = number + 1
        return number

    def tick(self):
        """Increase the clock by 1, and return the list of the numbers of the members that leave."""
        self.outer.check()
        ending = ending_numbers(self)
        begun = next_pieces(self, ending)
        self.outer.change(plan_moves(ending, begun), self.held)
        self.now += 1
        for number, size in begun:
            self.ends[number] = self.now + size
        return let_go(self, ending)

    def clock(self):
        """Return how many ticks there were."""
        self.outer.check()
        return self.now

    def query(self, question):
        """Return the answer of the present members."""
        self.outer.check()
        return self.outer.answer(question)

    def members(self):
        """Return the list of the present members, in the order of their numbers."""
        return list(self.held.values())

    def pairs(self):
        """Yield the tuples (number, member) of the present members, in the order of the numbers."""
        for number, member in self.held.items():
            yield (number, member)

    def numbers(self):
        """Return the list of the numbers of the present members, in ascending order."""
        self.outer.check()
        return list(self.held)

    def stack(self):
        """Return the list of the numbers of the inserted members, the first inserted one first."""
        self.outer.calls.check()
        return list(self.outer.order)

    def plan_add(self):
        """Return what the next addition adds to the log."""
        self.outer.check()
        return [("push", self.given)]

    def plan_tick(self):
        """Return what the next tick adds to the log."""
        self.outer.check()
        ending = ending_numbers(self)
        return plan_moves(ending, next_pieces(self, ending))

    def log(self):
        """Return the list of the calls of callables that have returned."""
        return list(self.outer.calls.entries)

    def mend(self, push, pop, ask):
        """Push the members into an empty outer structure, whose callables are used from now on."""
        self.outer.restore(push, pop, ask, self.held)

    @property
    def torn(self):
        """Whether the outer structure is in an unknown state."""
        return self.outer.broken

    def __len__(self):
        return len(self.held)

    def __repr__(self):
        return f"{self.NAME}({len(self.held)})"


def check_until(until, clock):
    """Raise BadNumber unless until is a later clock at which a member may leave."""
    check_integer(until)
    if until <= clock or until > Timed.LAST:
        raise BadNumber("an integer greater than the clock and at most Timed.LAST is needed")


def ending_numbers(timed):
    """Return the numbers of the members whose piece ends at the next clock, in their order in the stack."""
    order = timed.outer.order
    # A piece that began later lies within those below it, so it never ends after them.
    kept = len(order)
    while kept > 0 and timed.ends[order[kept - 1]] == timed.now + 1:
        kept -= 1
    return order[kept:]


def next_pieces(timed, ending):
    """Return the tuples (number, size) of the pieces that begin at the next clock, in the order of their pushes."""
    clock = timed.now + 1
    found = []
    for number in ending:
        room = timed.limits[number] - clock
        if room > 0:
            found.append((number, piece_size(clock, room)))
    return sorted(found, key=lambda piece: (-piece[1], piece[0]))


def plan_moves(ending, begun):
    """Return the entries of a tick at which the pieces of these members end, and these pieces begin."""
    return plan_pops(ending) + plan_pushes([number for number, size in begun])


def let_go(timed, ending):
    """Remove those of the members whose piece has ended that leave now, and return their numbers."""
    gone = sorted([number for number in ending if timed.limits[number] == timed.now])
    if len(gone) > 0:
        timed.held = without(timed.held, gone)
    for number in gone:
        del timed.limits[number]
        del timed.ends[number]
    return gone
