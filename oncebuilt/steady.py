"""Collections in blocks of which no single addition calls many callables."""

from oncebuilt.asking import Asker, plan_answer
from oncebuilt.calls import Calls


class Steady:
    """A collection that grows, in levels of blocks which are merged little by little."""

    NAME = "Steady"

    def __init__(self, begin, put, seal, ask, join, *, zero=None):
        self.begin_call = begin
        self.put_call = put
        self.seal_call = seal
        self.calls = Calls()
        self.asker = Asker(self.calls, ask, join, zero)
        # The list of the members is replaced, never changed: pairs that are being yielded stay as they are.
        self.held = []
        self.rows = []

    def add(self, member):
        """Work on the merges, then add the member, and return its number."""
        self.calls.check()
        number = len(self.held)
        # The work changes the levels, so these are found before it begins.
        merging = merging_levels(self.rows)
        for level in merging:
            work_on_merge(self, level)
        draft = begin_draft(self, 0)
        put_into(self, draft, 0, number, member)
        append_part(self.rows, 0, ((number,), seal_draft(self, draft, 0)))
        self.held = self.held + [member]
        return number

    def query(self, question):
        """Return the answer of the present members, or zero without members."""
        self.calls.check()
        return self.asker.answer(all_parts(self.rows), question)

    def members(self):
        """Return the list of the members, in the order of their numbers."""
        return list(self.held)

    def pairs(self):
        """Yield the tuples (number, member), in the order of the numbers."""
        for number, member in enumerate(self.held):
            yield (number, member)

    def levels(self):
        """Return, for each level, the list of the numbers of its blocks."""
        self.calls.check()
        return [[numbers for numbers, block in row.parts] for row in self.rows]

    def plan_add(self):
        """Return what the next addition adds to the log."""
        self.calls.check()
        number = len(self.held)
        entries = []
        for level in merging_levels(self.rows):
            entries.extend(plan_work(self.rows[level], level + 1))
        return entries + [("begin", 0), ("put", 0, number), ("seal", 0)]

    def plan_query(self):
        """Return what the next question adds to the log."""
        self.calls.check()
        return plan_answer(all_parts(self.rows))

    def log(self):
        """Return the list of the calls of callables that have returned."""
        return list(self.calls.entries)

    def __len__(self):
        return len(self.held)

    def __repr__(self):
        return f"{self.NAME}({len(self.held)})"


class Row:
    """The blocks of one level, a list of parts (numbers, block), and the merge of the first two."""

    def __init__(self):
        self.parts = []
        self.merge = None


class Merge:
    """A draft, which may be any object, and how many members of two blocks are in it."""

    def __init__(self, draft):
        self.draft = draft
        self.done = 0


def merging_levels(rows):
    """Return the levels that have two blocks to merge, the greatest one first."""
    return [level for level in reversed(range(len(rows))) if len(rows[level].parts) >= 2]


def merged_numbers(row):
    """Return the numbers in the first two blocks of a level, in their order."""
    return row.parts[0][0] + row.parts[1][0]


def work_on_merge(steady, level):
    """Put one more member of the first two blocks of the level into their draft, and seal a full draft."""
    row = steady.rows[level]
    if row.merge is None:
        row.merge = Merge(begin_draft(steady, level + 1))
    merge = row.merge
    numbers = merged_numbers(row)
    # The draft is full already if sealing it has raised an error.
    if merge.done < len(numbers):
        number = numbers[merge.done]
        put_into(steady, merge.draft, level + 1, number, steady.held[number])
        merge.done += 1
    if merge.done == len(numbers):
        block = seal_draft(steady, merge.draft, level + 1)
        row.merge = None
        row.parts = row.parts[2:]
        append_part(steady.rows, level + 1, (numbers, block))


def plan_work(row, made):
    """Return the entries of the next work on the merge that makes a block of the level made."""
    entries = []
    done = 0
    if row.merge is None:
        entries.append(("begin", made))
    else:
        done = row.merge.done
    numbers = merged_numbers(row)
    if done < len(numbers):
        entries.append(("put", made, numbers[done]))
        done += 1
    if done == len(numbers):
        entries.append(("seal", made))
    return entries


def begin_draft(steady, level):
    """Return a new draft of a block of the level."""
    return steady.calls.run(("begin", level), steady.begin_call)


def put_into(steady, draft, level, number, member):
    """Put a member into a draft of a block of the level."""
    steady.calls.run(("put", level, number), steady.put_call, draft, member)


def seal_draft(steady, draft, level):
    """Return the block of a draft."""
    return steady.calls.run(("seal", level), steady.seal_call, draft)


def append_part(rows, level, part):
    """Append a part to a level, which may be one more than there are."""
    if level == len(rows):
        rows.append(Row())
    rows[level].parts.append(part)


def all_parts(rows):
    """Return the parts of all levels, the greatest level first."""
    return [part for row in reversed(rows) for part in row.parts]
