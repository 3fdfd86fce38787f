"""Callables that watch how they are called, and a plain model of what the document says."""


class Failure(Exception):
    """The error that a failing callable raises."""


class Block:
    """A structure that can only be built once."""

    def __init__(self, members):
        self.members = tuple(members)


class Spy:
    """build, ask and join of a structure; they write down their calls.

    The answer to a question is the tuple of the pairs (question, member), so join is
    associative but not commutative. `hook(name, values)` runs in each call, after it was written
    down; the call with the index `fail_at` raises `error`.
    """

    def __init__(self):
        self.calls = []
        self.hook = None
        self.fail_at = None
        self.error = None

    def watch(self, name, values):
        self.calls.append((name, values))
        if self.hook is not None:
            self.hook(name, values)
        if self.fail_at is not None and len(self.calls) - 1 == self.fail_at:
            raise self.error

    def fail(self, later, error):
        """Let the call that comes after so many others raise the error."""
        self.fail_at = len(self.calls) + later
        self.error = error

    def build(self, *values):
        (members,) = values
        assert isinstance(members, list) and len(members) > 0
        made = Block(members)
        self.watch("build", (tuple(members),))
        # The list is the callable's own: what it does to it must not matter.
        members.clear()
        members.append("spoiled")
        return made

    def ask(self, *values):
        block, question = values
        assert isinstance(block, Block)
        self.watch("ask", values)
        return tuple((question, member) for member in block.members)

    def join(self, *values):
        one, other = values
        self.watch("join", values)
        return one + other

    def names(self):
        return [name for name, values in self.calls]


def expected_answer(members, question):
    return tuple((question, member) for member in members)


class Model:
    """The rows of numbers in the blocks, found by carrying as in binary counting."""

    def __init__(self, many=0):
        self.rows = []
        for _ in range(many):
            self.add()

    def many(self):
        return sum(len(row) for row in self.rows)

    def grown(self):
        rows = list(self.rows)
        last = (self.many(),)
        while rows and len(rows[-1]) == len(last):
            last = rows.pop() + last
        return rows + [last]

    def add(self):
        self.rows = self.grown()

    def plan_add(self):
        return [("build", self.grown()[-1])]

    def plan_query(self):
        entries = []
        for at, row in enumerate(self.rows):
            entries.append(("ask", row))
            if at > 0:
                entries.append(("join", row[0], len(row)))
        return entries

    def sizes(self):
        return [len(row) for row in self.rows]


class Untouchable:
    """An object that allows nothing but to be passed on."""

    def refuse(self, *values):
        raise AssertionError("the object was touched")

    __eq__ = __ne__ = __lt__ = __le__ = __gt__ = __ge__ = refuse
    __bool__ = __len__ = __iter__ = __contains__ = __getitem__ = __setitem__ = refuse
    __hash__ = refuse
    __repr__ = __str__ = __format__ = refuse
    __add__ = __radd__ = __iadd__ = __mul__ = __call__ = __index__ = __int__ = refuse
    __copy__ = __deepcopy__ = __reduce__ = __reduce_ex__ = refuse


def same_objects(some, others):
    """Tell whether two sequences hold the very same objects, without comparing them."""
    return len(some) == len(others) and all(one is other for one, other in zip(some, others))


def every_number(longest):
    """The numbers of members that the tests try: small ones, and those around powers of two."""
    found = list(range(20))
    size = 32
    while size <= longest:
        found.extend([size - 1, size, size + 1])
        size *= 2
    return [many for many in found if many <= longest]
