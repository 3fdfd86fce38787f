"""Points 10 and 13: the collections with an outer structure, how it is asked, and what is torn is mended."""

import random
import unittest

from oncebuilt.errors import Busy, NotTorn, Torn
from tests.checks import AnyCollection
from tests.helpers import ERRORS, Failure, OuterSpy, Untouchable, errors_of, readings
from tests.kinds import OUTER_KINDS, replayed, some_history, some_operation

ABCD = [("add", name, 0) for name in "abcd"]


def changes(kind, model):
    """The operations that may come next and push or pop."""
    return [operation for operation in kind.operations(model) if operation[0] != "query" and model.plan(operation)]


def torn_cases(kind):
    """Histories, with an operation after them and the index of a push or pop in it."""
    for seed in range(16):
        source, model = random.Random(seed), kind.models()
        history = some_history(kind, model, source, 2 * seed, adding=3 + seed % 3)
        for operation in changes(kind, model):
            for later in range(len(model.plan(operation))):
                yield history, operation, later


def torn_after(kind, history, operation, later, late=False, error=None):
    """A torn collection and its model, and the log that it must have."""
    spy, collection, model = replayed(kind, history)
    log = collection.log() + model.plan(operation)[:later]
    spy.late = late
    spy.fail(later, error or Failure())
    found = errors_of([lambda: kind.apply(collection, operation)])
    assert found == [Failure] or error is not None
    return collection, model, log


def torn_at_once(kind, history):
    """A collection that is torn by an addition after a history, and its model."""
    model = replayed(kind, history)[2]
    return torn_after(kind, history, ("add", "lost", 0), 0)[:2]


def mended(collection):
    """The spy of the structure with which a torn collection was mended."""
    spy = OuterSpy()
    collection.mend(spy.push, spy.pop, spy.ask)
    return spy


class Asking(AnyCollection):
    def test_the_answer_is_the_very_object(self):
        for kind in OUTER_KINDS:
            answer, asked = Untouchable(), []

            def ask(question):
                asked.append(question)
                return answer

            collection = kind.made_class(lambda member: None, lambda: None, ask)
            question = Untouchable()
            self.assertIs(collection.query(question), answer)
            self.assertIs(asked[0], question)

    def test_without_members_ask_is_called_too(self):
        for kind in OUTER_KINDS:
            spy, collection, model = kind.fresh()
            self.assertEqual(collection.query("q"), ("q", ()))
            self.assertEqual((collection.log(), spy.calls), ([("ask",)], [("ask", ("q",))]))

    def test_ask_may_fail(self):
        for kind in OUTER_KINDS:
            for many in (0, 1, 4):
                spy, collection, model = replayed(kind, ABCD[:many])
                log = collection.log()
                for error in ERRORS:
                    spy.fail(0, error)
                    with self.assertRaises(type(error)) as caught:
                        collection.query("q")
                    self.assertIs(caught.exception, error)
                    self.assertIs(collection.torn, False)
                    self.assertEqual((collection.log(), len(collection)), (log, many))
                spy.fail_at = None
                self.check_operation(kind, spy, collection, model, ("query", "q"))
                self.check_operation(kind, spy, collection, model, ("add", "x", 0))

    def test_the_members_that_are_pushed(self):
        for kind in OUTER_KINDS:
            for seed in range(10):
                source, model = random.Random(seed), kind.models()
                history = some_history(kind, model, source, 40)
                spy, collection, model = replayed(kind, history)
                members = [operation[1] for operation in history if operation[0] == "add"]
                called = [(name, values) for name, values in spy.calls if name != "ask"]
                expected = [(entry[0], (members[entry[1]],) if entry[0] == "push" else ())
                            for entry in collection.log() if entry[0] != "ask"]
                self.assertEqual(called, expected)


class Tearing(AnyCollection):
    def check_torn(self, kind, collection, model, log):
        """A torn collection refuses all but what is named, and has the stack and members of before."""
        self.assertIs(collection.torn, True)
        self.assertEqual(set(errors_of(kind.refused_if_torn(collection))), {Torn})
        self.assertEqual(collection.log(), log)
        self.check_state(collection, model)
        self.assertEqual(collection.stack(), model.stack)

    def test_each_push_and_pop(self):
        for kind in OUTER_KINDS:
            for history, operation, later in torn_cases(kind):
                for late in (False, True):
                    collection, model, log = torn_after(kind, history, operation, later, late)
                    self.check_torn(kind, collection, model, log)
                    spy = OuterSpy()
                    self.assertIsNone(collection.mend(spy.push, spy.pop, spy.ask))
                    log += [("push", number) for number in model.stack]
                    self.assertEqual(collection.log(), log)
                    self.assertEqual(spy.calls, [("push", (model.present[number],)) for number in model.stack])
                    self.check_state(collection, model)
                    self.check_whole(kind, spy, collection, model)
                    # The call that raised the error is done as if it had not been tried before.
                    self.check_operation(kind, spy, collection, model, operation)
                    source = random.Random(later)
                    for _ in range(4):
                        self.check_operation(kind, spy, collection, model, some_operation(kind, model, source))

    def test_the_first_member_of_all(self):
        for kind in OUTER_KINDS:
            collection, model = torn_at_once(kind, [])
            self.check_torn(kind, collection, model, [])
            spy = mended(collection)
            self.assertEqual((spy.calls, collection.log()), ([], []))
            self.check_operation(kind, spy, collection, model, ("add", "b", 0))

    def test_any_error(self):
        for kind in OUTER_KINDS:
            model = replayed(kind, ABCD)[2]
            for operation in changes(kind, model):
                for later in {0, len(model.plan(operation)) - 1}:
                    for error in ERRORS:
                        spy, collection, model = replayed(kind, ABCD)
                        spy.fail(later, error)
                        with self.assertRaises(type(error)) as caught:
                            kind.apply(collection, operation)
                        self.assertIs(caught.exception, error)
                        self.assertIs(collection.torn, True)

    def test_torn_is_a_property_that_raises_nothing(self):
        for kind in OUTER_KINDS:
            self.assertIsInstance(vars(kind.made_class)["torn"], property)
            spy, collection, model = kind.fresh()
            seen = []
            spy.hook = lambda name, values: seen.append((name, collection.torn))
            self.assertIs(collection.torn, False)
            for operation in [*ABCD, ("query", "q"), ("remove", kind.removable(replayed(kind, ABCD)[2])[0])]:
                self.check_operation(kind, spy, collection, model, operation)
            spy.fail(0, Failure())
            with self.assertRaises(Failure):
                kind.apply(collection, ("add", "lost", 0))
            # It is torn from the error on, not while the callable is still running.
            self.assertEqual({torn for name, torn in seen}, {False})
            self.assertEqual({name for name, torn in seen}, {"push", "pop", "ask"})
            self.assertIs(collection.torn, True)
            other, seen = OuterSpy(), []
            other.hook = lambda name, values: seen.append((name, collection.torn))
            collection.mend(other.push, other.pop, other.ask)
            # It stays torn until the end of mending.
            self.assertEqual(seen, [("push", True)] * len(model.stack))
            self.assertIs(collection.torn, False)

    def test_torn_comes_before_the_listed_errors(self):
        for kind in OUTER_KINDS:
            collection, model = torn_at_once(kind, [])
            # Without members, and with arguments that are wrong, Torn is raised all the same.
            self.assertEqual(set(errors_of(kind.refused_if_torn(collection))), {Torn})

    def test_a_refused_call_calls_nothing(self):
        for kind in OUTER_KINDS:
            spy, collection, model = replayed(kind, ABCD)
            spy.fail(0, Failure())
            with self.assertRaises(Failure):
                kind.apply(collection, ("add", "lost", 0))
            calls = len(spy.calls)
            errors_of(kind.refused_if_torn(collection))
            self.assertEqual(len(spy.calls), calls)

    def test_pairs_of_a_torn_collection(self):
        for kind in OUTER_KINDS:
            spy, collection, model = replayed(kind, ABCD)
            begun = collection.pairs()
            next(begun)
            spy.fail(0, Failure())
            with self.assertRaises(Failure):
                kind.apply(collection, ("add", "lost", 0))
            self.assertEqual(list(begun), [(1, "b"), (2, "c"), (3, "d")])
            self.assertEqual(list(collection.pairs()), list(enumerate("abcd")))

    def test_the_stack_is_a_new_list(self):
        for kind in OUTER_KINDS:
            spy, collection, model = replayed(kind, ABCD)
            collection.stack().append(9)
            collection.stack().reverse()
            self.assertEqual(collection.stack(), [0, 1, 2, 3])
            kept = collection.stack()
            self.check_operation(kind, spy, collection, model, ("add", "e", 0))
            self.assertEqual(kept, [0, 1, 2, 3])
            spy.fail(0, Failure())
            with self.assertRaises(Failure):
                kind.apply(collection, ("add", "lost", 0))
            collection.stack().clear()
            self.assertEqual(collection.stack(), [0, 1, 2, 3, 4])
            self.assertEqual(mended(collection).inside, list("abcde"))


class Mending(AnyCollection):
    def test_not_torn(self):
        for kind in OUTER_KINDS:
            for many in (0, 1, 4):
                spy, collection, model = replayed(kind, ABCD[:many])
                other = OuterSpy()
                for arguments in ((other.push, other.pop, other.ask), (None, None, None)):
                    with self.assertRaises(NotTorn):
                        collection.mend(*arguments)
                self.assertEqual(other.calls, [])
                # The callables are the old ones.
                self.check_operation(kind, spy, collection, model, ("add", "x", 0))
                self.check_operation(kind, spy, collection, model, ("query", "q"))
                self.assertEqual(other.calls, [])

    def test_the_new_callables_are_used_from_then_on(self):
        for kind in OUTER_KINDS:
            collection, model = torn_at_once(kind, ABCD)
            spy = mended(collection)
            operations = [("add", "x", 0), ("query", "q"), ("remove", kind.removable(model)[0])]
            for operation in operations:
                self.check_operation(kind, spy, collection, model, operation)
            self.assertEqual(set(spy.names()), {"push", "pop", "ask"})
            with self.assertRaises(NotTorn):
                collection.mend(spy.push, spy.pop, spy.ask)

    def test_by_name(self):
        for kind in OUTER_KINDS:
            collection, model = torn_at_once(kind, ABCD)
            spy = OuterSpy()
            self.assertIsNone(collection.mend(ask=spy.ask, pop=spy.pop, push=spy.push))
            self.check_whole(kind, spy, collection, model)

    def test_mending_that_fails(self):
        for kind in OUTER_KINDS:
            for error in ERRORS:
                for later in range(4):
                    collection, model = torn_at_once(kind, ABCD)
                    before, log, stack = readings(collection), collection.log(), collection.stack()
                    spy = OuterSpy()
                    spy.fail(later, error)
                    with self.assertRaises(type(error)) as caught:
                        collection.mend(spy.push, spy.pop, spy.ask)
                    self.assertIs(caught.exception, error)
                    log += [("push", number) for number in stack[:later]]
                    self.assertEqual((collection.torn, collection.stack(), collection.log()), (True, stack, log))
                    self.assertEqual(readings(collection), before)
                    self.assertEqual(set(errors_of(kind.refused_if_torn(collection))), {Torn})
                    spy = mended(collection)
                    log += [("push", number) for number in stack]
                    self.assertEqual((collection.torn, collection.stack(), collection.log()), (False, stack, log))
                    for operation in kind.operations(model)[:3]:
                        self.check_operation(kind, spy, collection, model, operation)

    def test_busy_while_mending(self):
        for kind in OUTER_KINDS:
            collection, model = torn_at_once(kind, ABCD)
            before, log, seen = readings(collection), collection.log(), []
            spy = OuterSpy()

            def hook(name, values):
                spy.hook = None
                seen.append((errors_of(kind.refused(collection)), readings(collection), collection.log(),
                             collection.torn))
                spy.hook = hook

            spy.hook = hook
            collection.mend(spy.push, spy.pop, spy.ask)
            self.assertEqual(len(seen), 4)
            for at, (refused, read, log_then, torn) in enumerate(seen):
                # Busy comes before Torn, and before NotTorn.
                self.assertEqual(set(refused), {Busy})
                pushed = [("push", number) for number in model.stack[:at]]
                self.assertEqual((read, log_then, torn), (before, log + pushed, True))

    def test_busy_within_push_and_pop_tears_if_it_is_not_caught(self):
        for kind in OUTER_KINDS:
            for operation in changes(kind, replayed(kind, ABCD)[2]):
                spy, collection, model = replayed(kind, ABCD)

                def hook(name, values):
                    spy.hook = None
                    collection.stack()

                spy.hook = hook
                with self.assertRaises(Busy):
                    kind.apply(collection, operation)
                self.assertIs(collection.torn, True)
                self.assertEqual(collection.stack(), [0, 1, 2, 3])

    def test_mending_after_each_operation(self):
        for kind in OUTER_KINDS:
            source = random.Random(8)
            spy, collection, model = kind.fresh()
            for _ in range(40):
                self.check_operation(kind, spy, collection, model, some_operation(kind, model, source))
                spy.fail(0, Failure())
                with self.assertRaises(Failure):
                    kind.apply(collection, ("add", "lost", 0))
                spy = mended(collection)
                self.check_whole(kind, spy, collection, model)

    def test_random_histories_with_errors(self):
        for kind in OUTER_KINDS:
            for seed in range(40):
                source = random.Random(seed)
                spy, collection, model = kind.fresh()
                for _ in range(70):
                    operation = some_operation(kind, model, source)
                    planned = model.plan(operation)
                    if source.random() >= 0.3 or not planned:
                        self.check_operation(kind, spy, collection, model, operation)
                        continue
                    later, log = source.randrange(len(planned)), collection.log() + planned
                    spy.late = source.random() < 0.5
                    spy.fail(later, Failure())
                    with self.assertRaises(Failure):
                        kind.apply(collection, operation)
                    self.assertEqual(collection.torn, operation[0] != "query")
                    self.assertEqual(collection.log(), log[:len(log) - len(planned) + later])
                    self.assertEqual(collection.stack(), model.stack)
                    self.check_state(collection, model)
                    spy.fail_at = None
                    if collection.torn:
                        spy = mended(collection)
                    self.check_whole(kind, spy, collection, model)


class Arguments(unittest.TestCase):
    def test_what_push_and_pop_return_is_ignored(self):
        for kind in OUTER_KINDS:
            for returned in (None, False, True, [], Untouchable(), Failure()):
                held = []

                def push(member, /):
                    held.append(member)
                    return returned

                def pop():
                    held.pop()
                    return returned

                def ask(question, /):
                    return sorted(held)

                collection, model = kind.made_class(push, pop, ask), kind.models()
                for operation in [*ABCD, ("remove", kind.removable(replayed(kind, ABCD)[2])[0])]:
                    kind.apply(collection, operation)
                    model.advance(operation)
                self.assertEqual(collection.query(None), sorted(model.members()))
                self.assertIs(collection.torn, False)


if __name__ == "__main__":
    unittest.main()
