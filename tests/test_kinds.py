"""Points 2, 3 and 4, which hold for all collections: each of them is tried in the same ways."""

import random
import types
import unittest

from oncebuilt.errors import Busy, Empty
from tests.checks import AnyCollection
from tests.helpers import ERRORS, Failure, Spy, Untouchable, errors_of, readings, same_objects
from tests.kinds import KINDS, replayed, some_history, some_operation


def histories(kind, many=14, longest=26):
    """Histories of growing length, each with the model after it; without questions, which change nothing."""
    found = []
    for seed in range(many):
        source, model = random.Random(seed), kind.models()
        length = seed * longest // (many - 1)
        history = some_history(kind, model, source, length, adding=3 + seed % 3)
        found.append([operation for operation in history if operation[0] != "query"])
    return found


def some_operations(kind, model):
    """A few of the operations that are possible: those of each sort, and of many removals three."""
    operations = kind.operations(model)
    removals = [operation for operation in operations if operation[0] == "remove"]
    others = [operation for operation in operations if operation[0] != "remove"]
    chosen = {0, len(removals) // 2, len(removals) - 1}
    return others + [operation for at, operation in enumerate(removals) if at in chosen]


def cases():
    """Each sort of collection after some histories, with each operation that may come next."""
    for kind in KINDS:
        for history in histories(kind):
            model = kind.models()
            for operation in history:
                model.advance(operation)
            for operation in some_operations(kind, model):
                yield kind, history, operation


class Histories(AnyCollection):
    def test_random_histories(self):
        for kind in KINDS:
            for seed in range(40):
                source = random.Random(seed)
                spy, collection, model = kind.fresh()
                adding = source.choice([3, 4, 6])
                self.check_state(collection, model)
                for _ in range(source.choice([10, 40, 70])):
                    operation = some_operation(kind, model, source, adding=adding)
                    self.check_operation(kind, spy, collection, model, operation)

    def test_histories_that_become_empty_again_and_again(self):
        for kind in KINDS:
            spy, collection, model = kind.fresh()
            for many in (1, 2, 3, 4, 5, 8, 13):
                for _ in range(many):
                    self.check_operation(kind, spy, collection, model, ("add", f"m{model.given}", 0))
                self.check_operation(kind, spy, collection, model, ("query", "q"))
                while kind.removable(model):
                    operation = ("remove", kind.removable(model)[-1])
                    self.check_operation(kind, spy, collection, model, operation)
                    self.check_operation(kind, spy, collection, model, ("query", "q"))

    def test_as_many_members_as_are_allowed(self):
        for kind in KINDS:
            source = random.Random(5)
            spy, collection, model = kind.fresh()
            for step in range(1000):
                operation = ("add", f"m{model.given}", source.randint(-9, 9))
                log = len(collection.log())
                planned = model.plan(operation)
                kind.apply(collection, operation)
                model.advance(operation)
                self.assertEqual(collection.log()[log:], planned)
                if step % 4 == 3 and kind.removable(model):
                    operation = ("remove", source.choice(kind.removable(model)))
                    log, planned = len(collection.log()), model.plan(operation)
                    kind.apply(collection, operation)
                    model.advance(operation)
                    self.assertEqual(collection.log()[log:], planned)
            self.check_operation(kind, spy, collection, model, ("query", "q"))

    def test_numbers_are_integers_in_the_order_of_addition(self):
        for kind in KINDS:
            spy, collection, model = kind.fresh()
            for number in range(9):
                found = kind.apply(collection, ("add", f"m{number}", 0))
                self.assertIs(type(found), int)
                self.assertEqual(found, number)

    def test_a_history_changes_nothing_of_another_collection(self):
        for kind in KINDS:
            spy, one, model = kind.fresh()
            other_spy, other, other_model = kind.fresh()
            source = random.Random(7)
            for step in range(60):
                if step % 3 == 0:
                    operation = some_operation(kind, other_model, source)
                    self.check_operation(kind, other_spy, other, other_model, operation)
                else:
                    operation = some_operation(kind, model, source)
                    self.check_operation(kind, spy, one, model, operation)


class WhileACallableRuns(AnyCollection):
    def test_all_is_refused_but_what_only_reads(self):
        for kind, history, operation in cases():
            spy, collection, model = replayed(kind, history)
            before, log, planned = readings(collection), collection.log(), model.plan(operation)
            seen = []

            def hook(name, values):
                # What should be refused would otherwise run this hook again, and so on.
                spy.hook = None
                refused = errors_of(kind.refused(collection))
                seen.append((name, refused, readings(collection), collection.log()))
                spy.hook = hook

            spy.hook = hook
            expected = kind.result(spy, model, operation)
            found = kind.apply(collection, operation)
            spy.hook = None
            self.assertEqual(found, expected)
            self.assertEqual([one[0] for one in seen], [entry[0] for entry in planned])
            for at, (name, refused, read, log_then) in enumerate(seen):
                self.assertEqual(set(refused), {Busy}, (kind.made_class, name))
                self.assertEqual(read, before)
                self.assertEqual(log_then, log + planned[:at])
            model.advance(operation)
            self.check_state(collection, model)
            self.check_operation(kind, spy, collection, model, ("query", "q"))

    def test_busy_that_is_not_caught_leaves_the_call(self):
        for kind, history, operation in cases():
            planned = replayed(kind, history)[2].plan(operation)
            for at in sorted({0, len(planned) // 2, len(planned) - 1} & set(range(len(planned)))):
                spy, collection, model = replayed(kind, history)
                before, log, calls = readings(collection), collection.log(), len(spy.calls)

                def hook(name, values):
                    if len(spy.calls) - calls == at + 1:
                        spy.hook = None
                        kind.apply(collection, ("query", "q"))

                spy.hook = hook
                with self.assertRaises(Busy):
                    kind.apply(collection, operation)
                spy.hook = None
                self.assertEqual(readings(collection), before)
                self.assertEqual(collection.log(), log + planned[:at])

    def test_nothing_is_refused_between_calls(self):
        for kind, history, operation in cases():
            spy, collection, model = replayed(kind, history)
            kind.apply(collection, operation)
            for read in kind.readers(collection):
                read()
            self.assertNotIn(Busy, errors_of(kind.refused(collection)))

    def test_nothing_is_refused_after_an_error(self):
        for kind, history, operation in cases():
            spy, collection, model = replayed(kind, history)
            if not model.plan(operation):
                continue
            spy.fail(0, Failure())
            with self.assertRaises(Failure):
                kind.apply(collection, operation)
            self.assertNotIn(Busy, errors_of(kind.refused(collection)))

    def test_other_collections_can_be_used(self):
        for kind in KINDS:
            for other_kind in KINDS:
                spy, collection, model = replayed(kind, [("add", "a", 0), ("add", "b", 0)])
                other_spy, other, other_model = other_kind.fresh()
                calls = []

                def hook(name, values):
                    calls.append(name)
                    operation = ("add", name, 0)
                    self.check_operation(other_kind, other_spy, other, other_model, operation)
                    self.check_operation(other_kind, other_spy, other, other_model, ("query", name))
                    with self.assertRaises(Busy):
                        kind.apply(collection, ("query", "q"))

                for operation in (("add", "c", 0), ("query", "q")):
                    log, planned = collection.log(), model.plan(operation)
                    expected = kind.result(spy, model, operation)
                    spy.hook = hook
                    found = kind.apply(collection, operation)
                    spy.hook = None
                    self.assertEqual((found, collection.log()), (expected, log + planned))
                    model.advance(operation)
                self.assertEqual(other.members(), calls)

    def test_pairs_that_were_made_before_or_are_begun_within(self):
        for kind in KINDS:
            spy, collection, model = replayed(kind, [("add", name, 0) for name in "abc"])
            begun, unbegun, late = collection.pairs(), collection.pairs(), collection.pairs()
            self.assertEqual(next(begun), (0, "a"))
            found, kept = [], []

            def hook(name, values):
                if not found:
                    found.append((list(begun), list(unbegun)))
                    kept.append(collection.pairs())
                    self.assertEqual(next(kept[0]), (0, "a"))

            spy.hook = hook
            kind.apply(collection, ("add", "d", 0))
            spy.hook = None
            self.assertEqual(found, [([(1, "b"), (2, "c")], [(0, "a"), (1, "b"), (2, "c")])])
            self.assertEqual(list(kept[0]), [(1, "b"), (2, "c")])
            self.assertEqual(list(late), [(0, "a"), (1, "b"), (2, "c"), (3, "d")])


class WhenACallableFails(AnyCollection):
    def failed(self, kind, history, operation, later, error, late=False):
        """Replay, let one call of the operation fail, and check what it leaves."""
        spy, collection, model = replayed(kind, history)
        before, log, planned = readings(collection), collection.log(), model.plan(operation)
        calls = len(spy.calls)
        spy.late = late
        spy.fail(later, error)
        with self.assertRaises(type(error)) as caught:
            kind.apply(collection, operation)
        spy.fail_at = None
        self.assertIs(caught.exception, error)
        self.assertEqual(len(spy.calls), calls + later + 1)
        self.assertEqual(collection.log(), log + planned[:later])
        self.assertEqual(readings(collection), before)
        model.advance(operation, later)
        return spy, collection, model

    def go_on(self, kind, spy, collection, model, operation):
        """After an error the collection answers and changes as if nothing had happened."""
        source = random.Random(1)
        self.check_operation(kind, spy, collection, model, ("query", "q"))
        self.check_operation(kind, spy, collection, model, operation)
        for _ in range(5):
            self.check_operation(kind, spy, collection, model, some_operation(kind, model, source))

    def test_each_call_of_each_operation(self):
        for kind, history, operation in cases():
            planned = replayed(kind, history)[2].plan(operation)
            for later, entry in enumerate(planned):
                spy, collection, model = self.failed(kind, history, operation, later, Failure())
                # What tears a collection is tried where the torn ones are.
                if not kind.outer or entry[0] == "ask":
                    self.go_on(kind, spy, collection, model, operation)

    def test_any_error(self):
        for kind in KINDS:
            history = [("add", name, 0) for name in "abcd"]
            model = replayed(kind, history)[2]
            for operation in some_operations(kind, model):
                for error in ERRORS:
                    for later in range(len(model.plan(operation))):
                        self.failed(kind, history, operation, later, error)

    def test_the_same_call_fails_several_times(self):
        for kind, history, operation in cases():
            spy, collection, model = replayed(kind, history)
            entries = model.plan(operation)
            if not entries or kind.outer and operation[0] != "query":
                continue
            for _ in range(3):
                log, planned = collection.log(), model.plan(operation)
                later = len(planned) - 1
                spy.fail(later, Failure())
                with self.assertRaises(Failure):
                    kind.apply(collection, operation)
                self.assertEqual(collection.log(), log + planned[:later])
                model.advance(operation, later)
                self.check_state(collection, model)
            self.go_on(kind, spy, collection, model, operation)

    def test_random_histories_with_errors(self):
        for kind in KINDS:
            for seed in range(40):
                source = random.Random(seed)
                spy, collection, model = kind.fresh()
                for _ in range(source.choice([20, 50])):
                    operation = some_operation(kind, model, source, adding=source.choice([3, 4, 6]))
                    planned = model.plan(operation)
                    fails = source.random() < 0.4 and len(planned) > 0
                    if fails and not (kind.outer and operation[0] != "query"):
                        later, log = source.randrange(len(planned)), collection.log()
                        spy.fail(later, Failure())
                        with self.assertRaises(Failure):
                            kind.apply(collection, operation)
                        self.assertEqual(collection.log(), log + planned[:later])
                        model.advance(operation, later)
                        self.check_state(collection, model)
                    else:
                        self.check_operation(kind, spy, collection, model, operation)


class NewLists(AnyCollection):
    def test_returned_lists_can_be_changed(self):
        for kind in KINDS:
            for history in histories(kind):
                spy, collection, model = replayed(kind, history)
                for read in kind.readers(collection):
                    found = read()
                    self.assertIs(type(found), list)
                    kept = list(found)
                    found.append("spoiled")
                    found.reverse()
                    self.assertEqual(read(), kept)
                    read().clear()
                    self.assertEqual(read(), kept)
                    self.assertIsNot(read(), read())
                self.check_operation(kind, spy, collection, model, ("query", "q"))
                self.check_operation(kind, spy, collection, model, ("add", "new", 0))

    def test_lists_stay_as_they_were_returned(self):
        for kind in KINDS:
            spy, collection, model = replayed(kind, [("add", name, 0) for name in "abcde"])
            found = [read() for read in kind.readers(collection)]
            kept = [list(one) for one in found]
            source = random.Random(2)
            for _ in range(20):
                self.check_operation(kind, spy, collection, model, some_operation(kind, model, source))
            self.assertEqual(found, kept)

    def test_lists_that_are_changed_while_a_callable_runs(self):
        for kind in KINDS:
            spy, collection, model = replayed(kind, [("add", name, 0) for name in "abc"])

            def hook(name, values):
                for read in (collection.members, collection.log):
                    read().append("spoiled")
                    read().clear()

            spy.hook = hook
            self.check_operation(kind, spy, collection, model, ("add", "d", 0))
            self.check_operation(kind, spy, collection, model, ("query", "q"))
            for number in kind.removable(model)[:1]:
                self.check_operation(kind, spy, collection, model, ("remove", number))

    def test_entries_are_tuples_of_plain_values(self):
        for kind in KINDS:
            source, model = random.Random(4), kind.models()
            history = some_history(kind, model, source, 50)
            spy, collection, model = replayed(kind, history)
            plans = [kind.plan(collection, operation) for operation in kind.operations(model)]
            for entries in [collection.log(), *plans]:
                for entry in entries:
                    self.assertIs(type(entry), tuple)
                    self.assertIs(type(entry[0]), str)
                    for part in entry[1:]:
                        numbers = part if type(part) is tuple else (part,)
                        self.assertTrue(all(type(number) is int for number in numbers), entry)


class Pairs(AnyCollection):
    def test_pairs_are_a_generator_of_tuples(self):
        for kind in KINDS:
            spy, collection, model = replayed(kind, [("add", name, 0) for name in "abc"])
            pairs = collection.pairs()
            self.assertIsInstance(pairs, types.GeneratorType)
            self.assertEqual([type(pair) for pair in pairs], [tuple] * 3)

    def test_pairs_are_those_of_the_first_item(self):
        for kind in KINDS:
            for seed in range(10):
                source = random.Random(seed)
                spy, collection, model = replayed(kind, [("add", name, 0) for name in "abcdef"])
                begun, unbegun = collection.pairs(), collection.pairs()
                first, rest = next(begun), list(model.present.items())[1:]
                self.assertEqual(first, (0, "a"))
                for _ in range(8):
                    operation = some_operation(kind, model, source)
                    self.check_operation(kind, spy, collection, model, operation)
                self.assertEqual(list(begun), rest)
                self.assertEqual(list(unbegun), list(model.present.items()))

    def test_a_loop_over_pairs_may_change_the_collection(self):
        for kind in KINDS:
            spy, collection, model = replayed(kind, [("add", name, 0) for name in "abcdef"])
            seen = []
            for number, member in collection.pairs():
                # What does not end is no collection.
                self.assertLess(number, 6)
                seen.append((number, member))
                self.check_operation(kind, spy, collection, model, ("add", member * 2, 0))
                for gone in kind.removable(model)[-1:]:
                    self.check_operation(kind, spy, collection, model, ("remove", gone))
            self.assertEqual(seen, list(enumerate("abcdef")))


class AnyObjects(AnyCollection):
    def made(self, kind):
        """A collection whose structures, answers and callables' results are objects that refuse everything."""
        def anything(*values):
            return Untouchable()

        spy = Spy()
        for name in ("build", "ask", "join", "begin", "put", "seal", "unjoin", "drop", "push", "pop"):
            setattr(spy, name, anything)
        return kind.made(spy)

    def test_nothing_is_done_to_members_questions_and_answers(self):
        for kind in KINDS:
            for history in histories(kind):
                collection, model, members = self.made(kind), kind.models(), {}
                for operation in history:
                    if operation[0] == "add":
                        member = Untouchable()
                        members[model.given] = member
                        kind.apply(collection, ("add", member, operation[2]))
                    else:
                        kind.apply(collection, operation)
                    model.advance(operation)
                present = [members[number] for number in model.present]
                self.assertTrue(same_objects(collection.members(), present))
                self.assertTrue(same_objects([member for _, member in collection.pairs()], present))
                self.assertEqual(len(collection), len(present))
                self.assertEqual(repr(collection), f"{collection.NAME}({len(present)})")
                log, planned = collection.log(), model.plan(("query", "q"))
                answer = kind.apply(collection, ("query", Untouchable()))
                if planned:
                    self.assertIsInstance(answer, Untouchable)
                self.assertEqual(collection.log(), log + planned)

    def test_equal_and_changeable_members(self):
        members = [None, None, [1], [1], {}, {}, 0, False, 1, True, "", (), float("nan"), len]
        for kind in KINDS:
            collection, model = self.made(kind), kind.models()
            for member in members:
                operation = ("add", member, 0)
                self.assertEqual(collection.plan_add(), model.plan(operation))
                self.assertEqual(kind.apply(collection, operation), model.given)
                model.advance(operation)
            self.assertTrue(same_objects(collection.members(), members))
            for _ in range(len(members)):
                for number in kind.removable(model)[:1]:
                    operation = ("remove", number)
                    log, planned = collection.log(), model.plan(operation)
                    kind.apply(collection, operation)
                    model.advance(operation)
                    self.assertEqual(collection.log(), log + planned)
                    self.assertTrue(same_objects(collection.members(), model.members()))
                    self.assertEqual([number for number, _ in collection.pairs()], list(model.present))
            self.assertEqual([members[at] for at in (2, 3, 4, 5)], [[1], [1], {}, {}])

    def test_none_everywhere(self):
        for kind in KINDS:
            spy = Spy()
            for name in ("build", "ask", "join", "begin", "put", "seal", "unjoin", "drop", "push", "pop"):
                setattr(spy, name, lambda *values: None)
            collection, model = kind.made(spy), kind.models()
            source = random.Random(9)
            for _ in range(60):
                chosen = some_operation(kind, model, source)
                operation = (chosen[0], None, *chosen[2:]) if chosen[0] != "remove" else chosen
                log, planned = collection.log(), model.plan(operation)
                result = kind.apply(collection, operation)
                if operation[0] == "query" and planned:
                    self.assertIsNone(result)
                model.advance(operation)
                self.assertEqual(collection.log(), log + planned)

    def test_callables_that_keep_nothing_of_the_promise(self):
        # The answers are wrong, but the calls are the planned ones.
        def wrong(*values):
            for value in values:
                if isinstance(value, list):
                    value.clear()
            return 5

        for kind in KINDS:
            for seed in range(10):
                spy, source = Spy(), random.Random(seed)
                for name in ("build", "ask", "join", "begin", "put", "seal", "unjoin", "drop", "push", "pop"):
                    setattr(spy, name, wrong)
                collection, model = kind.made(spy), kind.models()
                for _ in range(40):
                    operation = some_operation(kind, model, source)
                    log, planned = collection.log(), model.plan(operation)
                    self.assertEqual(kind.plan(collection, operation), planned)
                    kind.apply(collection, operation)
                    model.advance(operation)
                    self.assertEqual(collection.log(), log + planned)
                    self.check_state(collection, model)


class WithoutMembers(AnyCollection):
    def test_zero_itself_is_the_answer(self):
        for kind in KINDS:
            if kind.outer:
                continue
            for zero in (Untouchable(), [], 0, "", None):
                spy, collection, model = kind.fresh(zero=zero)
                self.assertEqual(kind.plan(collection, ("query", "q")), [])
                self.assertIs(kind.apply(collection, ("query", "q")), zero)
                self.assertEqual((spy.calls, collection.log()), ([], []))
                self.check_operation(kind, spy, collection, model, ("add", "a", 0))
                self.check_operation(kind, spy, collection, model, ("query", "q"))
                if kind.removable(model):
                    self.check_operation(kind, spy, collection, model, ("remove", 0))
                    calls = len(spy.calls)
                    self.assertEqual(kind.plan(collection, ("query", "q")), [])
                    self.assertIs(kind.apply(collection, ("query", "q")), zero)
                    self.assertEqual(len(spy.calls), calls)

    def test_zero_is_never_joined(self):
        for kind in KINDS:
            if kind.outer:
                continue
            spy, collection, model = kind.fresh(zero=Untouchable())
            for number in range(9):
                self.check_operation(kind, spy, collection, model, ("add", f"m{number}", 0))
                self.check_operation(kind, spy, collection, model, ("query", "q"))

    def test_length_and_truth(self):
        for kind in KINDS:
            spy, collection, model = kind.fresh()
            self.check_state(collection, model)
            self.assertFalse(collection)
            self.assertEqual((collection.members(), list(collection.pairs()), collection.log()), ([], [], []))

    def test_empty_is_raised_only_where_it_is_named(self):
        for kind in KINDS:
            spy, collection, model = kind.fresh()
            for read in kind.readers(collection):
                read()
            for name in kind.empty:
                with self.assertRaises(Empty):
                    getattr(collection, name)()
            self.assertEqual((spy.calls, collection.log()), ([], []))


if __name__ == "__main__":
    unittest.main()
