"""The collections of the package, each with its callables, its model and the calls that it takes."""

from oncebuilt.blocks import Blocks
from oncebuilt.ranked import Ranked
from oncebuilt.removal import Cancelling, Dropping
from oncebuilt.steady import Steady
from oncebuilt.sums import EvenSums, TwoStacks
from oncebuilt.timed import Timed
from tests.helpers import BagSpy, OuterSpy, Spy, SumSpy, Untouchable
from tests.models import (
    BlocksModel, CancellingModel, DroppingModel, EvenSumsModel, RankedModel, SteadyModel, TimedModel,
    TwoStacksModel, lasting,
)

# What is no number of any member: objects of other kinds, booleans, and integers out of range.
NO_NUMBERS = [True, False, None, "0", "", b"0", 0.0, 1.0, -1, 10 ** 30, -10 ** 30, [], [0], (), (0,), {}, {0: 0},
              set(), frozenset(), object(), int, len, Untouchable(), 1j, float("nan")]

# What is no integer.
NO_INTEGERS = [True, False, None, "0", "", b"1", 0.0, 1.0, [], (), {}, object(), int, Untouchable(), 1j,
               float("inf"), float("nan"), 2.5, "7", [7], (7,)]


class Kind:
    """One class of collections.

    `outer` tells whether it uses an outer structure, and `empty` lists the names of the methods that
    raise Empty without members.
    """

    spies = Spy
    outer = False
    empty = []

    def fresh(self, **more):
        """A spy, an empty collection of its callables, and a model."""
        spy = self.spies()
        return spy, self.made(spy, **more), self.models()

    def apply(self, collection, operation):
        if operation[0] == "add":
            return collection.add(operation[1])
        if operation[0] == "remove":
            return collection.remove(operation[1])
        return collection.query(operation[1])

    def plan(self, collection, operation):
        if operation[0] == "add":
            return collection.plan_add()
        if operation[0] == "remove":
            return collection.plan_remove(operation[1])
        return collection.plan_query()

    def result(self, spy, model, operation):
        """What the operation must return."""
        if operation[0] == "add":
            return model.given
        if operation[0] == "remove":
            return None
        return spy.answer(model.members(), operation[1]) if model.present else "zero"

    def removable(self, model):
        """What can be removed, such as numbers."""
        return []

    def operations(self, model):
        """One operation of each sort, and all removals."""
        found = [("add", f"m{model.given}", 0), ("query", "q")]
        return found + [("remove", number) for number in self.removable(model)]

    def refused(self, collection):
        """The calls that are refused while a callable of the collection runs."""
        return [
            lambda: collection.add("x"),
            lambda: collection.add(None),
            lambda: collection.add(member=[]),
            lambda: collection.query("q"),
            lambda: collection.query(question=None),
            lambda: collection.plan_add(),
        ]

    def readers(self, collection):
        """The calls that return a list."""
        return [collection.members, collection.log, collection.plan_add, lambda: list(collection.pairs())]


class BlocksKind(Kind):
    made_class, models = Blocks, BlocksModel

    def made(self, spy, zero="zero"):
        return Blocks(spy.build, spy.ask, spy.join, zero=zero)

    def refused(self, collection):
        return Kind.refused(self, collection) + [collection.plan_query, collection.sizes]

    def readers(self, collection):
        return Kind.readers(self, collection) + [collection.plan_query, collection.sizes]


class SteadyKind(Kind):
    made_class, models = Steady, SteadyModel

    def made(self, spy, zero="zero"):
        return Steady(spy.begin, spy.put, spy.seal, spy.ask, spy.join, zero=zero)

    def refused(self, collection):
        return Kind.refused(self, collection) + [collection.plan_query, collection.levels]

    def readers(self, collection):
        return Kind.readers(self, collection) + [collection.plan_query, collection.levels]


class RemovalKind(Kind):
    def removable(self, model):
        return list(model.present)

    def refused(self, collection):
        calls = Kind.refused(self, collection) + [collection.plan_query, collection.numbers]
        for number in [0, 1, *NO_NUMBERS]:
            calls.append(lambda number=number: collection.remove(number))
            calls.append(lambda number=number: collection.plan_remove(number))
        return calls

    def readers(self, collection):
        return Kind.readers(self, collection) + [collection.plan_query, collection.numbers]


class CancellingKind(RemovalKind):
    made_class, models, spies = Cancelling, CancellingModel, BagSpy

    def made(self, spy, zero="zero"):
        return Cancelling(spy.build, spy.ask, spy.join, spy.unjoin, zero=zero)


class DroppingKind(RemovalKind):
    made_class, models = Dropping, DroppingModel

    def made(self, spy, zero="zero"):
        return Dropping(spy.build, spy.ask, spy.join, spy.drop, zero=zero)


class OuterKind(Kind):
    spies = OuterSpy
    outer = True

    def made(self, spy):
        return self.made_class(spy.push, spy.pop, spy.ask)

    def result(self, spy, model, operation):
        if operation[0] == "query":
            return spy.answer(model.members(), operation[1])
        return model.given if operation[0] == "add" else self.removed(model, operation)

    def operations(self, model):
        return Kind.operations(self, model) + [("add", f"m{model.given}", hint) for hint in (5, -5)]

    def refused(self, collection):
        other = OuterSpy()
        return self.refused_if_torn(collection) + [
            lambda: collection.stack(),
            lambda: collection.mend(other.push, other.pop, other.ask),
            lambda: collection.mend(None, None, None),
        ]

    def readers(self, collection):
        return Kind.readers(self, collection) + [collection.numbers, collection.stack]


class RankedKind(OuterKind):
    made_class, models = Ranked, RankedModel
    empty = ["first", "remove_first", "plan_remove"]

    def apply(self, collection, operation):
        if operation[0] == "add":
            return collection.add(operation[1], rank=operation[2])
        if operation[0] == "remove":
            return collection.remove_first()
        return collection.query(operation[1])

    def plan(self, collection, operation):
        if operation[0] == "add":
            return collection.plan_add()
        if operation[0] == "remove":
            return collection.plan_remove()
        return [("ask",)]

    def removed(self, model, operation):
        return operation[1]

    def removable(self, model):
        return model.order()[:1]

    def moment(self, collection):
        """What the collection tells of its next removal."""
        return collection.first() if collection else None

    def expected_moment(self, model):
        return model.order()[0] if model.present else None

    def refused_if_torn(self, collection):
        calls = Kind.refused(self, collection) + [
            lambda: collection.add("x", rank=3),
            lambda: collection.first(),
            lambda: collection.remove_first(),
            lambda: collection.plan_remove(),
            lambda: collection.numbers(),
        ]
        return calls + [lambda rank=rank: collection.add("x", rank=rank) for rank in NO_INTEGERS]

    def readers(self, collection):
        return OuterKind.readers(self, collection) + ([collection.plan_remove] if len(collection) > 0 else [])


class TimedKind(OuterKind):
    """A removal is ("remove", "tick"); it removes whatever leaves at this tick."""

    made_class, models = Timed, TimedModel

    def until(self, collection, hint):
        stay = lasting(hint)
        return Timed.LAST if stay is None else collection.clock() + stay

    def apply(self, collection, operation):
        if operation[0] == "add":
            return collection.add(operation[1], until=self.until(collection, operation[2]))
        if operation[0] == "remove":
            return collection.tick()
        return collection.query(operation[1])

    def plan(self, collection, operation):
        if operation[0] == "add":
            return collection.plan_add()
        if operation[0] == "remove":
            return collection.plan_tick()
        return [("ask",)]

    def removed(self, model, operation):
        return model.leaving()

    def removable(self, model):
        return ["tick"] if model.present else []

    def moment(self, collection):
        return collection.clock()

    def expected_moment(self, model):
        return model.clock

    def refused_if_torn(self, collection):
        calls = [
            lambda: collection.add("x", until=1),
            lambda: collection.add(None, until=Timed.LAST),
            lambda: collection.add(until=10 ** 9, member=[]),
            lambda: collection.tick(),
            lambda: collection.clock(),
            lambda: collection.query("q"),
            lambda: collection.query(question=None),
            lambda: collection.numbers(),
            lambda: collection.plan_add(),
            lambda: collection.plan_tick(),
        ]
        wrong = [*NO_INTEGERS, 0, -1, Timed.LAST + 1, 10 ** 30]
        return calls + [lambda until=until: collection.add("x", until=until) for until in wrong]

    def readers(self, collection):
        return OuterKind.readers(self, collection) + [collection.plan_tick]


class SumsKind(Kind):
    """A question asks for the total, whatever it is."""

    spies = SumSpy
    empty = ["remove_oldest", "plan_remove"]

    def made(self, spy, zero="zero"):
        return self.made_class(spy.join, zero=zero)

    def apply(self, collection, operation):
        if operation[0] == "add":
            return collection.add(operation[1])
        if operation[0] == "remove":
            return collection.remove_oldest()
        return collection.total()

    def plan(self, collection, operation):
        if operation[0] == "add":
            return collection.plan_add()
        if operation[0] == "remove":
            return collection.plan_remove()
        return collection.plan_total()

    def result(self, spy, model, operation):
        return operation[1] if operation[0] == "remove" else Kind.result(self, spy, model, operation)

    def removable(self, model):
        return list(model.present)[:1]

    def refused(self, collection):
        return [
            lambda: collection.add("x"),
            lambda: collection.add(None),
            lambda: collection.add(member=[]),
            lambda: collection.remove_oldest(),
            lambda: collection.total(),
            lambda: collection.numbers(),
            lambda: collection.plan_add(),
            lambda: collection.plan_remove(),
            lambda: collection.plan_total(),
        ]

    def readers(self, collection):
        found = Kind.readers(self, collection) + [collection.numbers, collection.plan_total]
        return found + ([collection.plan_remove] if len(collection) > 0 else [])


class TwoStacksKind(SumsKind):
    made_class, models = TwoStacks, TwoStacksModel


class EvenSumsKind(SumsKind):
    made_class, models = EvenSums, EvenSumsModel


KINDS = [BlocksKind(), SteadyKind(), CancellingKind(), DroppingKind(), RankedKind(), TimedKind(),
         TwoStacksKind(), EvenSumsKind()]
OUTER_KINDS = [kind for kind in KINDS if kind.outer]



def some_operation(kind, model, source, adding=5, removing=3):
    """An operation that is chosen by a random source."""
    removable = kind.removable(model)
    chosen = source.choices(["add", "remove", "query"], [adding, removing if removable else 0, 2])[0]
    if chosen == "add":
        return ("add", f"m{model.given}", source.choice([0, 0, 1, -1, 2, 10 ** 30]))
    if chosen == "remove":
        return ("remove", source.choice(removable))
    return ("query", source.choice(["q", 7, None]))


def some_history(kind, model, source, many, **more):
    """A list of so many operations, each one possible after those before it; the model goes along."""
    history = []
    for _ in range(many):
        history.append(some_operation(kind, model, source, **more))
        model.advance(history[-1])
    return history


def replayed(kind, history):
    """A spy, a collection and a model after these operations."""
    spy, collection, model = kind.fresh()
    for operation in history:
        kind.apply(collection, operation)
        model.advance(operation)
    return spy, collection, model
