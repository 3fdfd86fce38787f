"""What the document says of the log of each collection, written as plainly as possible.

A model has the present members, a dict of numbers and members. An operation is a tuple: ("add",
member, rank), ("remove", number) or ("query", question); a rank matters to few of the models, and
some of them remove only what comes first. `plan` returns the log entries of an operation, and
`advance` says that its first `calls` calls have returned (all, if it is None).
"""

import copy


def rows_of(numbers):
    """The numbers in the blocks of a row, found from the binary digits of their count."""
    rows, at = [], 0
    for bit in reversed(range(len(numbers).bit_length())):
        size = 1 << bit
        if len(numbers) & size:
            rows.append(tuple(numbers[at:at + size]))
            at += size
    return rows


def question_plan(rows, mark=()):
    """The entries of asking these blocks."""
    entries, many = [], 0
    for row in rows:
        entries.append(("ask", *mark, row))
        if many > 0:
            entries.append(("join", *mark, many, len(row)))
        many += len(row)
    return entries


class AnyModel:
    """What all models share: the numbers and the present members."""

    def __init__(self):
        self.present = {}
        self.given = 0

    def advance(self, operation, calls=None):
        if calls is None:
            self.change(operation)
            if operation[0] == "add":
                self.present[self.given] = operation[1]
                self.given += 1
            elif operation[0] == "remove":
                del self.present[operation[1]]

    def members(self):
        return list(self.present.values())


class BlocksModel(AnyModel):
    def plan(self, operation):
        if operation[0] == "add":
            return [("build", rows_of([*self.present, self.given])[-1])]
        return question_plan(rows_of(list(self.present)))

    def change(self, operation):
        pass


class SteadyModel(AnyModel):
    def __init__(self):
        AnyModel.__init__(self)
        self.levels = []
        self.drafts = {}

    def steps(self):
        """Yield the entries of an addition; each one has its effect when the next is asked for."""
        for level in reversed(range(len(self.levels))):
            blocks = self.levels[level]
            if len(blocks) < 2:
                continue
            both = blocks[0] + blocks[1]
            if level not in self.drafts:
                yield ("begin", level + 1)
                self.drafts[level] = []
            if len(self.drafts[level]) < len(both):
                number = both[len(self.drafts[level])]
                yield ("put", level + 1, number)
                self.drafts[level].append(number)
            if len(self.drafts[level]) == len(both):
                yield ("seal", level + 1)
                del blocks[:2], self.drafts[level]
                self.grow(level + 1, both)
        yield ("begin", 0)
        yield ("put", 0, self.given)
        yield ("seal", 0)
        self.grow(0, (self.given,))

    def grow(self, level, block):
        if level == len(self.levels):
            self.levels.append([])
        self.levels[level].append(block)

    def plan(self, operation):
        if operation[0] == "add":
            return list(copy.deepcopy(self).steps())
        return question_plan([block for blocks in reversed(self.levels) for block in blocks])

    def change(self, operation):
        if operation[0] == "add":
            list(self.steps())

    def advance(self, operation, calls=None):
        AnyModel.advance(self, operation, calls)
        if operation[0] == "add" and calls is not None:
            steps = self.steps()
            # Asking for the entry of the call that fails gives those before it their effects.
            for _ in range(calls + 1):
                next(steps)


class RemovalModel(AnyModel):
    """known has the numbers in the blocks in their order, gone those that were removed of them."""

    def __init__(self):
        AnyModel.__init__(self)
        self.known = []
        self.gone = []

    def rest(self, number):
        return [one for one in self.present if one != number]

    def is_rebuilt(self):
        return 2 * (len(self.gone) + 1) >= len(self.known)

    def change(self, operation):
        if operation[0] == "add":
            self.known.append(self.given)
        elif operation[0] == "remove":
            if self.is_rebuilt():
                self.known, self.gone = self.rest(operation[1]), []
            else:
                self.gone.append(operation[1])


class CancellingModel(RemovalModel):
    def plan(self, operation):
        if operation[0] == "add":
            return [("build", 0, rows_of([*self.known, self.given])[-1])]
        if operation[0] == "remove":
            if self.is_rebuilt():
                return [("build", 0, row) for row in rows_of(self.rest(operation[1]))]
            return [("build", 1, rows_of([*self.gone, operation[1]])[-1])]
        entries = question_plan(rows_of(self.known), (0,))
        if self.gone:
            entries += question_plan(rows_of(self.gone), (1,))
            entries.append(("unjoin", len(self.known), len(self.gone)))
        return entries


class DroppingModel(RemovalModel):
    def rows(self, more=()):
        """The present numbers in each block."""
        return [tuple(one for one in row if one not in self.gone) for row in rows_of([*self.known, *more])]

    def plan(self, operation):
        if operation[0] == "add":
            return [("build", self.rows([self.given])[-1])]
        if operation[0] == "remove":
            if self.is_rebuilt():
                return [("build", row) for row in rows_of(self.rest(operation[1]))]
            (row,) = [row for row in self.rows() if operation[1] in row]
            return [("drop", row, operation[1])] if len(row) > 1 else []
        return question_plan([row for row in self.rows() if row])


class RankedModel(AnyModel):
    def __init__(self):
        AnyModel.__init__(self)
        self.ranks = {}
        self.stack = []
        self.removals = 0

    def order(self):
        return sorted(self.present, key=lambda number: (-self.ranks[number], number))

    def needed(self):
        """How many members the next removal needs."""
        many, rest = 1, self.removals + 1
        while rest % 2 == 0:
            many, rest = 2 * many, rest // 2
        return self.order()[:many]

    def plan(self, operation):
        if operation[0] == "add":
            return [("push", self.given)]
        if operation[0] == "query":
            return [("ask",)]
        needed, stack, popped = self.needed(), list(self.stack), []
        while not set(needed) <= set(popped):
            popped.append(stack.pop())
        again = [number for number in reversed(popped) if number not in needed] + needed[:0:-1]
        return [("pop", number) for number in popped] + [("push", number) for number in again]

    def change(self, operation):
        if operation[0] == "query":
            return
        for action, number in self.plan(operation):
            if action == "push":
                self.stack.append(number)
            else:
                assert self.stack.pop() == number
        if operation[0] == "add":
            self.ranks[self.given] = operation[2]
        else:
            self.removals = self.removals + 1 if len(self.present) > 1 else 0
