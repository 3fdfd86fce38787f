"""What the document says of the log of each collection, written as plainly as possible.

A model has the present members, a dict of numbers and members. An operation is a tuple: ("add",
member, hint), ("remove", number) or ("query", question). A hint is an integer: the rank of a Ranked, and
what tells how long a member of a Timed stays; to the others it does not matter. Some of the models remove
only what comes first; that of a Timed removes with ("remove", "tick") whatever leaves then. `plan` returns
the log entries of an operation, and `advance` says that its first `calls` calls have returned (all, if it
is None).
"""

import copy


def rows_of(numbers):
    """The numbers in the blocks of a row, found from the binary digits of their count."""
    rows, at = [], 0
    for bit in reversed(range(len(numbers).bit_length())):
        size = 1 << bit
        if len(numbers) & size:
            rows.append(tuple(numbers[at:at + size]))
            at += size
    return rows


def question_plan(rows, mark=()):
    """The entries of asking these blocks."""
    entries, many = [], 0
    for row in rows:
        entries.append(("ask", *mark, row))
        if many > 0:
            entries.append(("join", *mark, many, len(row)))
        many += len(row)
    return entries


class AnyModel:
    """What all models share: the numbers and the present members."""

    def __init__(self):
        self.present = {}
        self.given = 0

    def advance(self, operation, calls=None):
        if calls is None:
            self.change(operation)
            if operation[0] == "add":
                self.present[self.given] = operation[1]
                self.given += 1
            elif operation[0] == "remove":
                del self.present[operation[1]]

    def members(self):
        return list(self.present.values())


class BlocksModel(AnyModel):
    def plan(self, operation):
        if operation[0] == "add":
            return [("build", rows_of([*self.present, self.given])[-1])]
        return question_plan(rows_of(list(self.present)))

    def change(self, operation):
        pass


class SteadyModel(AnyModel):
    def __init__(self):
        AnyModel.__init__(self)
        self.levels = []
        self.drafts = {}

    def steps(self):
        """Yield the entries of an addition; each one has its effect when the next is asked for."""
        for level in reversed(range(len(self.levels))):
            blocks = self.levels[level]
            if len(blocks) < 2:
                continue
            both = blocks[0] + blocks[1]
            if level not in self.drafts:
                yield ("begin", level + 1)
                self.drafts[level] = []
            if len(self.drafts[level]) < len(both):
                number = both[len(self.drafts[level])]
                yield ("put", level + 1, number)
                self.drafts[level].append(number)
            if len(self.drafts[level]) == len(both):
                yield ("seal", level + 1)
                del blocks[:2], self.drafts[level]
                self.grow(level + 1, both)
        yield ("begin", 0)
        yield ("put", 0, self.given)
        yield ("seal", 0)
        self.grow(0, (self.given,))

    def grow(self, level, block):
        if level == len(self.levels):
            self.levels.append([])
        self.levels[level].append(block)

    def plan(self, operation):
        if operation[0] == "add":
            return list(copy.deepcopy(self).steps())
        return question_plan([block for blocks in reversed(self.levels) for block in blocks])

    def change(self, operation):
        if operation[0] == "add":
            list(self.steps())

    def advance(self, operation, calls=None):
        AnyModel.advance(self, operation, calls)
        if operation[0] == "add" and calls is not None:
            steps = self.steps()
            # Asking for the entry of the call that fails gives those before it their effects.
            for _ in range(calls + 1):
                next(steps)


class RemovalModel(AnyModel):
    """known has the numbers in the blocks in their order, gone those that were removed of them."""

    def __init__(self):
        AnyModel.__init__(self)
        self.known = []
        self.gone = []

    def rest(self, number):
        return [one for one in self.present if one != number]

    def is_rebuilt(self):
        return 2 * (len(self.gone) + 1) >= len(self.known)

    def change(self, operation):
        if operation[0] == "add":
            self.known.append(self.given)
        elif operation[0] == "remove":
            if self.is_rebuilt():
                self.known, self.gone = self.rest(operation[1]), []
            else:
                self.gone.append(operation[1])


class CancellingModel(RemovalModel):
    def plan(self, operation):
        if operation[0] == "add":
            return [("build", 0, rows_of([*self.known, self.given])[-1])]
        if operation[0] == "remove":
            if self.is_rebuilt():
                return [("build", 0, row) for row in rows_of(self.rest(operation[1]))]
            return [("build", 1, rows_of([*self.gone, operation[1]])[-1])]
        entries = question_plan(rows_of(self.known), (0,))
        if self.gone:
            entries += question_plan(rows_of(self.gone), (1,))
            entries.append(("unjoin", len(self.known), len(self.gone)))
        return entries


class DroppingModel(RemovalModel):
    def rows(self, more=()):
        """The present numbers in each block."""
        return [tuple(one for one in row if one not in self.gone) for row in rows_of([*self.known, *more])]

    def plan(self, operation):
        if operation[0] == "add":
            return [("build", self.rows([self.given])[-1])]
        if operation[0] == "remove":
            if self.is_rebuilt():
                return [("build", row) for row in rows_of(self.rest(operation[1]))]
            (row,) = [row for row in self.rows() if operation[1] in row]
            return [("drop", row, operation[1])] if len(row) > 1 else []
        return question_plan([row for row in self.rows() if row])


class RankedModel(AnyModel):
    def __init__(self):
        AnyModel.__init__(self)
        self.ranks = {}
        self.stack = []
        self.removals = 0

    def order(self):
        return sorted(self.present, key=lambda number: (-self.ranks[number], number))

    def needed(self):
        """How many members the next removal needs."""
        many, rest = 1, self.removals + 1
        while rest % 2 == 0:
            many, rest = 2 * many, rest // 2
        return self.order()[:many]

    def plan(self, operation):
        if operation[0] == "add":
            return [("push", self.given)]
        if operation[0] == "query":
            return [("ask",)]
        needed, stack, popped = self.needed(), list(self.stack), []
        while not set(needed) <= set(popped):
            popped.append(stack.pop())
        again = [number for number in reversed(popped) if number not in needed] + needed[:0:-1]
        return [("pop", number) for number in popped] + [("push", number) for number in again]

    def change(self, operation):
        if operation[0] == "query":
            return
        for action, number in self.plan(operation):
            if action == "push":
                self.stack.append(number)
            else:
                assert self.stack.pop() == number
        if operation[0] == "add":
            self.ranks[self.given] = operation[2]
        else:
            self.removals = self.removals + 1 if len(self.present) > 1 else 0


# All clocks and indexes that the tests use are below this power of two.
WHOLE = 1 << 31


def dyadic(begin, end, first=0, size=WHOLE):
    """The pieces of a range, found by halving a large one until each part is within the range or outside."""
    if begin >= end or end <= first or first + size <= begin:
        return []
    if begin <= first and first + size <= end:
        return [(first, size)]
    half = size // 2
    return dyadic(begin, end, first, half) + dyadic(begin, end, first + half, half)


def lasting(hint):
    """How many ticks a member of a Timed stays, None if it stays as long as it can."""
    if hint == 10 ** 30:
        return None
    return {0: 12, 1: 1, -1: 5, 2: 2}.get(hint, 3 * abs(hint))


class TimedModel(AnyModel):
    """schedule has the pieces of each present member that are still to come, the first of which is running."""

    LAST = 10 ** 9

    def __init__(self):
        AnyModel.__init__(self)
        self.clock = 0
        self.until = {}
        self.schedule = {}
        self.stack = []

    def until_of(self, hint):
        stay = lasting(hint)
        return self.LAST if stay is None else self.clock + stay

    def leaving(self):
        """The numbers of the members that leave at the next tick."""
        return [number for number in self.present if self.until[number] == self.clock + 1]

    def plan(self, operation):
        if operation[0] == "add":
            return [("push", self.given)]
        if operation[0] == "query":
            return [("ask",)]
        ending = []
        for number in self.present:
            first, size = self.schedule[number][0]
            if first + size == self.clock + 1:
                ending.append(number)
        # Those whose piece ends are the last ones of the stack.
        popped = self.stack[len(self.stack) - len(ending):]
        assert sorted(popped) == ending
        again = [number for number in ending if len(self.schedule[number]) > 1]
        again.sort(key=lambda number: (-self.schedule[number][1][1], number))
        return [("pop", number) for number in reversed(popped)] + [("push", number) for number in again]

    def change(self, operation):
        if operation[0] == "query":
            return
        entries = self.plan(operation)
        for action, number in entries:
            if action == "push":
                self.stack.append(number)
            else:
                assert self.stack.pop() == number
        if operation[0] == "add":
            self.until[self.given] = self.until_of(operation[2])
            rest = dyadic(self.clock + 1, self.until[self.given])
            self.schedule[self.given] = [(self.clock, 1), *rest]
        else:
            for action, number in entries:
                if action == "pop":
                    self.schedule[number].pop(0)

    def advance(self, operation, calls=None):
        if operation[0] != "remove":
            AnyModel.advance(self, operation, calls)
        elif calls is None:
            leaving = self.leaving()
            self.change(operation)
            for number in leaving:
                assert self.schedule[number] == []
                del self.present[number]
            self.clock += 1


def join_entry(begin, middle, end):
    return ("join", (begin, middle), (middle, end))


class QueueModel(AnyModel):
    """front and back have the numbers of their members."""

    def __init__(self):
        AnyModel.__init__(self)
        self.front = []
        self.back = []

    def plan(self, operation):
        """A copy goes through the operation, so that what it would log is known."""
        copied = copy.copy(self)
        for name, value in vars(self).items():
            if isinstance(value, list):
                setattr(copied, name, list(value))
        copied.entries = []
        if operation[0] == "query":
            copied.totalled()
        else:
            copied.change(operation)
        return copied.entries

    def change(self, operation):
        if operation[0] == "add":
            self.added()
        elif operation[0] == "remove":
            self.removed()

    def advance(self, operation, calls=None):
        self.entries = []
        AnyModel.advance(self, operation, calls)

    def appended(self, numbers):
        """A new member is appended to a back, and joined to what is there."""
        if numbers:
            self.entries.append(join_entry(numbers[0], self.given, self.given + 1))
        numbers.append(self.given)

    def joined(self, *parts):
        """Parts are joined, the first one first, without those that are empty."""
        filled = [part for part in parts if part]
        for part in filled[1:]:
            self.entries.append(join_entry(filled[0][0], part[0], part[-1] + 1))


class TwoStacksModel(QueueModel):
    def added(self):
        self.appended(self.back)

    def removed(self):
        if not self.front:
            for number in self.back[-2::-1]:
                self.entries.append(join_entry(number, number + 1, self.back[-1] + 1))
            self.front, self.back = self.back, []
        self.front.pop(0)

    def totalled(self):
        self.joined(self.front, self.back)


class EvenSumsModel(QueueModel):
    """second is the second back; renewed has the numbers with a new join, None if no rebuild is running."""

    def __init__(self):
        QueueModel.__init__(self)
        self.second = []
        self.renewed = None

    def added(self):
        self.appended(self.back if self.renewed is None else self.second)
        self.work()

    def removed(self):
        self.front.pop(0)
        self.work()

    def work(self):
        if self.renewed is None and len(self.back) > len(self.front):
            self.renewed = []
        if self.renewed is None:
            return
        both = self.front + self.back
        if both[0] not in self.renewed:
            if not self.renewed:
                self.renewed.append(self.back[-1])
            else:
                number = self.renewed[-1] - 1
                self.entries.append(join_entry(number, number + 1, self.back[-1] + 1))
                self.renewed.append(number)
        if both[0] in self.renewed:
            self.front, self.back, self.second, self.renewed = both, self.second, [], None

    def totalled(self):
        self.joined(self.front, self.back, self.second)
