"""Callables that watch how they are called, and a plain model of what the document says."""

from collections import Counter

from oncebuilt.errors import BadNumber, Busy, Empty, NoMember, NotTorn, Torn


class Failure(Exception):
    """The error that a failing callable raises."""


class OwnInterrupt(BaseException):
    """An error that is not an Exception."""


ERRORS = [
    Failure("x"), ValueError("x"), KeyError("x"), IndexError("x"), LookupError("x"), StopIteration("x"),
    RuntimeError("x"), TypeError("x"), AttributeError("x"), ZeroDivisionError("x"), AssertionError("x"),
    RecursionError("x"), GeneratorExit("x"), Busy("x"), BadNumber("x"), NoMember("x"), Empty("x"), Torn("x"),
    NotTorn("x"), OwnInterrupt("x"),
]


class Block:
    """A structure that can only be built once; it is spent when another one takes its place."""

    def __init__(self, members):
        self.members = tuple(members)
        self.spent = False


class Draft:
    """A structure that takes members until it is sealed."""

    def __init__(self):
        self.members = []
        self.sealed = False


class Spy:
    """The callables of a structure that is built once; they write down their calls.

    The answer to a question is the tuple of the pairs (question, member), so join is
    associative but not commutative. `hook(name, values)` runs in each call, after it was written
    down; the call with the index `fail_at` raises `error`.
    """

    def __init__(self):
        self.calls = []
        self.hook = None
        self.fail_at = None
        self.error = None

    def watch(self, name, values):
        self.calls.append((name, values))
        if self.hook is not None:
            self.hook(name, values)
        if self.fail_at is not None and len(self.calls) - 1 == self.fail_at:
            raise self.error

    def fail(self, later, error):
        """Let the call that comes after so many others raise the error."""
        self.fail_at = len(self.calls) + later
        self.error = error

    def build(self, *values):
        (members,) = values
        assert isinstance(members, list) and len(members) > 0
        made = Block(members)
        self.watch("build", (tuple(members),))
        # The list is the callable's own: what it does to it must not matter.
        members.clear()
        members.append("spoiled")
        return made

    def ask(self, *values):
        block, question = values
        assert isinstance(block, Block) and not block.spent
        self.watch("ask", values)
        return self.answer(block.members, question)

    def answer(self, members, question):
        return tuple((question, member) for member in members)

    def join(self, *values):
        one, other = values
        self.watch("join", values)
        return one + other

    def begin(self, *values):
        assert values == ()
        self.watch("begin", values)
        return Draft()

    def put(self, *values):
        draft, member = values
        assert isinstance(draft, Draft) and not draft.sealed
        self.watch("put", (tuple(draft.members), member))
        draft.members.append(member)
        return "ignored"

    def seal(self, *values):
        (draft,) = values
        assert isinstance(draft, Draft) and not draft.sealed
        self.watch("seal", (tuple(draft.members),))
        draft.sealed = True
        return Block(draft.members)

    def drop(self, *values):
        block, member = values
        assert isinstance(block, Block) and not block.spent
        at = [one is member for one in block.members].index(True)
        assert len(block.members) > 1
        self.watch("drop", (block.members, member))
        block.spent = True
        return Block(block.members[:at] + block.members[at + 1:])

    def names(self):
        return [name for name, values in self.calls]


class BagSpy(Spy):
    """Its answers count the pairs (question, member), so join is commutative, and unjoin undoes it."""

    def answer(self, members, question):
        return Counter((question, member) for member in members)

    def unjoin(self, *values):
        one, other = values
        # What is taken away must have been joined before.
        assert other <= one
        self.watch("unjoin", values)
        return one - other


class OuterSpy(Spy):
    """push, pop and ask of a structure that undoes its last insertion.

    The answer to a question does not depend on the order of the members. If `late` is true, a
    push or pop that raises an error has changed the structure before.
    """

    def __init__(self):
        Spy.__init__(self)
        self.inside = []
        self.late = False

    def push(self, *values):
        (member,) = values
        if self.late:
            self.inside.append(member)
            self.watch("push", values)
        else:
            self.watch("push", values)
            self.inside.append(member)
        return "ignored"

    def pop(self, *values):
        assert values == () and len(self.inside) > 0
        if self.late:
            member = self.inside.pop()
            self.watch("pop", values)
        else:
            self.watch("pop", values)
            member = self.inside.pop()
        return member

    def ask(self, *values):
        (question,) = values
        self.watch("ask", values)
        return self.answer(self.inside, question)

    def answer(self, members, question):
        return (question, tuple(sorted([id(member) for member in members])))


class SumSpy(Spy):
    """join of members that are strings themselves."""

    def answer(self, members, question):
        return "".join(members)


def expected_answer(members, question):
    return tuple((question, member) for member in members)


class Model:
    """The rows of numbers in the blocks, found by carrying as in binary counting."""

    def __init__(self, many=0):
        self.rows = []
        for _ in range(many):
            self.add()

    def many(self):
        return sum(len(row) for row in self.rows)

    def grown(self):
        rows = list(self.rows)
        last = (self.many(),)
        while rows and len(rows[-1]) == len(last):
            last = rows.pop() + last
        return rows + [last]

    def add(self):
        self.rows = self.grown()

    def plan_add(self):
        return [("build", self.grown()[-1])]

    def plan_query(self):
        entries = []
        for at, row in enumerate(self.rows):
            entries.append(("ask", row))
            if at > 0:
                entries.append(("join", row[0], len(row)))
        return entries

    def sizes(self):
        return [len(row) for row in self.rows]


class Untouchable:
    """An object that allows nothing but to be passed on."""

    def refuse(self, *values):
        raise AssertionError("the object was touched")

    __eq__ = __ne__ = __lt__ = __le__ = __gt__ = __ge__ = refuse
    __bool__ = __len__ = __iter__ = __contains__ = __getitem__ = __setitem__ = refuse
    __hash__ = refuse
    __repr__ = __str__ = __format__ = refuse
    __add__ = __radd__ = __iadd__ = __mul__ = __call__ = __index__ = __int__ = refuse
    __copy__ = __deepcopy__ = __reduce__ = __reduce_ex__ = refuse


def same_objects(some, others):
    """Tell whether two sequences hold the very same objects, without comparing them."""
    return len(some) == len(others) and all(one is other for one, other in zip(some, others))


def every_number(longest):
    """The numbers of members that the tests try: small ones, and those around powers of two."""
    found = list(range(20))
    size = 32
    while size <= longest:
        found.extend([size - 1, size, size + 1])
        size *= 2
    return [many for many in found if many <= longest]


def errors_of(calls):
    """The class of the error that each call raises, None if it raises none."""
    found = []
    for call in calls:
        try:
            call()
        except Exception as error:
            found.append(type(error))
        else:
            found.append(None)
    return found


def readings(blocks):
    """What can be read while a callable runs."""
    return (blocks.members(), list(blocks.pairs()), len(blocks), repr(blocks), bool(blocks), blocks.NAME)
