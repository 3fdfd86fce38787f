"""Points 10, 11 and 13: how a Ranked uses its outer structure, and what is torn is mended."""

import random
import unittest
from collections import Counter

from oncebuilt.errors import BadNumber, Busy, Empty, NotTorn, Torn
from oncebuilt.plans import total_built
from oncebuilt.ranked import Ranked
from tests.helpers import ERRORS, Failure, OuterSpy, Untouchable, errors_of, readings
from tests.kinds import NO_RANKS, RankedKind, some_history, some_operation
from tests.models import RankedModel

KIND = RankedKind()


def of_ranks(spy, ranks):
    ranked = Ranked(spy.push, spy.pop, spy.ask)
    for number, rank in enumerate(ranks):
        ranked.add(f"m{number}", rank=rank)
    return ranked


def queue_of(spy, many):
    return of_ranks(spy, [0] * many)


class ByHand(unittest.TestCase):
    def check(self, ranked, expected, number, stack):
        """Remove the first member; the calls, its number and the stack are these."""
        log = ranked.log()
        self.assertEqual(ranked.plan_remove(), expected)
        self.assertEqual(ranked.first(), number)
        self.assertEqual(ranked.log(), log)
        self.assertEqual(ranked.remove_first(), number)
        self.assertEqual(ranked.log(), log + expected)
        self.assertEqual(ranked.stack(), stack)

    def test_a_queue(self):
        spy = OuterSpy()
        ranked = queue_of(spy, 5)
        self.assertEqual(ranked.log(), [("push", number) for number in range(5)])
        self.assertEqual(ranked.stack(), [0, 1, 2, 3, 4])
        self.check(ranked, [
            ("pop", 4), ("pop", 3), ("pop", 2), ("pop", 1), ("pop", 0),
            ("push", 1), ("push", 2), ("push", 3), ("push", 4),
        ], 0, [1, 2, 3, 4])
        self.check(ranked, [
            ("pop", 4), ("pop", 3), ("pop", 2), ("pop", 1), ("push", 3), ("push", 4), ("push", 2),
        ], 1, [3, 4, 2])
        self.check(ranked, [("pop", 2)], 2, [3, 4])
        self.assertEqual(ranked.plan_add(), [("push", 5)])
        ranked.add("m5")
        # The fourth removal needs four members, but there are only three.
        self.check(ranked, [
            ("pop", 5), ("pop", 4), ("pop", 3), ("push", 5), ("push", 4),
        ], 3, [5, 4])
        self.check(ranked, [("pop", 4)], 4, [5])
        self.check(ranked, [("pop", 5)], 5, [])
        # The collection was empty, so this is the first removal again.
        for name in "abc":
            ranked.add(name)
        self.check(ranked, [
            ("pop", 8), ("pop", 7), ("pop", 6), ("push", 7), ("push", 8),
        ], 6, [7, 8])
        self.check(ranked, [("pop", 8), ("pop", 7), ("push", 8)], 7, [8])

    def test_ranks(self):
        spy = OuterSpy()
        ranked = of_ranks(spy, [1, 5, 3, 5, -2, 0])
        self.check(ranked, [
            ("pop", 5), ("pop", 4), ("pop", 3), ("pop", 2), ("pop", 1),
            ("push", 2), ("push", 3), ("push", 4), ("push", 5),
        ], 1, [0, 2, 3, 4, 5])
        self.check(ranked, [
            ("pop", 5), ("pop", 4), ("pop", 3), ("pop", 2), ("push", 4), ("push", 5), ("push", 2),
        ], 3, [0, 4, 5, 2])
        # A member of a greater rank is removed before all that are there.
        ranked.add("m6", rank=3)
        ranked.add("m7", rank=4)
        self.check(ranked, [("pop", 7)], 7, [0, 4, 5, 2, 6])
        self.check(ranked, [
            ("pop", 6), ("pop", 2), ("pop", 5), ("pop", 4), ("pop", 0), ("push", 4), ("push", 5), ("push", 0), ("push", 6),
        ], 2, [4, 5, 0, 6])
        self.check(ranked, [("pop", 6)], 6, [4, 5, 0])
        self.check(ranked, [("pop", 0), ("pop", 5), ("push", 5)], 0, [4, 5])
        self.check(ranked, [("pop", 5)], 5, [4])
        self.check(ranked, [("pop", 4)], 4, [])

    def test_one_member(self):
        spy = OuterSpy()
        ranked = queue_of(spy, 1)
        for number in range(6):
            self.check(ranked, [("pop", number)], number, [])
            ranked.add("next")

    def test_members_that_are_pushed(self):
        spy = OuterSpy()
        ranked = queue_of(spy, 3)
        ranked.remove_first()
        self.assertEqual(spy.calls, [
            ("push", ("m0",)), ("push", ("m1",)), ("push", ("m2",)), ("pop", ()), ("pop", ()), ("pop", ()),
            ("push", ("m1",)), ("push", ("m2",)),
        ])
        self.assertEqual(spy.inside, ["m1", "m2"])


class Removing(unittest.TestCase):
    def test_the_first_one_is_removed(self):
        for seed in range(40):
            source = random.Random(seed)
            ranks = {}
            ranked = queue_of(OuterSpy(), 0)
            spread = source.choice([0, 1, 3, 10 ** 30])
            for _ in range(80):
                if ranks and source.random() < 0.45:
                    first = min(ranks, key=lambda number: (-ranks[number], number))
                    self.assertEqual(ranked.first(), first)
                    self.assertEqual(ranked.remove_first(), first)
                    del ranks[first]
                else:
                    rank = source.randint(-spread, spread)
                    ranks[ranked.add("x", rank=rank)] = rank
                self.assertEqual(ranked.numbers(), sorted(ranks))
                self.assertEqual(sorted(ranked.stack()), sorted(ranks))
                self.assertEqual(len(ranked), len(ranks))

    def test_equal_ranks_are_a_queue(self):
        for rank in (0, 7, -10 ** 30):
            spy = OuterSpy()
            ranked = of_ranks(spy, [rank] * 30)
            self.assertEqual([ranked.remove_first() for _ in range(30)], list(range(30)))
            self.assertEqual((ranked.stack(), spy.inside), ([], []))

    def test_the_rank_is_zero_by_default(self):
        spy = OuterSpy()
        ranked = queue_of(spy, 0)
        ranked.add("a", rank=-1)
        ranked.add("b")
        ranked.add("c", rank=1)
        ranked.add("d", rank=0)
        self.assertEqual([ranked.remove_first() for _ in range(4)], [2, 1, 3, 0])

    def test_great_ranks(self):
        spy = OuterSpy()
        ranks = [10 ** 30 - 1, -10 ** 30 + 1, 10 ** 30 - 2, 10 ** 40, -10 ** 40]
        ranked = of_ranks(spy, ranks)
        self.assertEqual([ranked.remove_first() for _ in range(5)], [3, 0, 2, 1, 4])

    def test_without_members(self):
        spy = OuterSpy()
        ranked = queue_of(spy, 0)
        for _ in range(2):
            for action in (ranked.first, ranked.remove_first, ranked.plan_remove):
                with self.assertRaises(Empty):
                    action()
            self.assertEqual((ranked.numbers(), ranked.stack(), len(ranked)), ([], [], 0))
            log = ranked.log()
            self.assertEqual(ranked.query("q"), ("q", ()))
            self.assertEqual(ranked.log(), log + [("ask",)])
            ranked.add("a")
            ranked.remove_first()

    def test_the_bounds(self):
        for seed in range(60):
            source, model = random.Random(seed), RankedModel()
            spy = OuterSpy()
            ranked = queue_of(spy, 0)
            adding, removing = source.choice([(5, 3), (5, 5), (9, 8), (4, 5)])
            counts = Counter()
            for _ in range(150):
                operation = some_operation(KIND, model, source, adding=adding, removing=removing)
                entries = KIND.plan(ranked, operation)
                KIND.apply(ranked, operation)
                model.advance(operation)
                counts[operation[0]] += 1
                counts.update(entry[0] for entry in entries)
                self.check_bounds(counts, len(ranked))

    def test_the_bounds_of_a_queue_that_is_emptied(self):
        for many in (1, 2, 3, 7, 8, 9, 64, 100, 300):
            spy = OuterSpy()
            ranked = queue_of(spy, many)
            counts = Counter(add=many, push=many)
            while ranked:
                counts["remove"] += 1
                counts.update(entry[0] for entry in ranked.plan_remove())
                ranked.remove_first()
                self.check_bounds(counts, len(ranked))

    def check_bounds(self, counts, present):
        removals = counts["remove"]
        if removals > 0:
            logarithm = removals.bit_length() - 1
            self.assertLessEqual(counts["pop"], total_built(removals) + (logarithm + 1) * counts["add"])
        self.assertEqual(counts["push"], counts["pop"] + present)

    def test_many_members(self):
        source = random.Random(3)
        spy = OuterSpy()
        ranked = of_ranks(spy, [source.randint(-5, 5) for _ in range(1000)])
        numbers = [ranked.remove_first() for _ in range(1000)]
        self.assertEqual(sorted(numbers), list(range(1000)))
        self.assertEqual(spy.inside, [])


class Asking(unittest.TestCase):
    def test_answers_are_those_of_the_present_members(self):
        for seed in range(30):
            source, model = random.Random(seed), RankedModel()
            spy = OuterSpy()
            ranked = queue_of(spy, 0)
            for _ in range(60):
                operation = some_operation(KIND, model, source)
                KIND.apply(ranked, operation)
                model.advance(operation)
                self.assertEqual(Counter(spy.inside), Counter(model.members()))
                self.assertEqual(spy.inside, [model.present[number] for number in ranked.stack()])
                self.assertEqual(ranked.query("q"), spy.answer(model.members(), "q"))

    def test_other_structures(self):
        def sums():
            held = [0]
            return (lambda member: held.append(held[-1] + member), held.pop, lambda factor: factor * held[-1])

        def greatest():
            held = []
            return (held.append, lambda: held.pop(), lambda least: max([least, *held]))

        for made, expected in ((sums, lambda present: 4 * sum(present)),
                               (greatest, lambda present: max([4, *present]))):
            source, ranked, present = random.Random(21), Ranked(*made()), {}
            for _ in range(200):
                if present and source.random() < 0.45:
                    del present[ranked.remove_first()]
                else:
                    member = source.randint(0, 50)
                    present[ranked.add(member, rank=source.randint(0, 3))] = member
                self.assertEqual(ranked.query(4), expected(list(present.values())))

    def test_the_answer_is_the_very_object(self):
        answer, asked = Untouchable(), []

        def ask(question):
            asked.append(question)
            return answer

        ranked = Ranked(lambda member: None, lambda: None, ask)
        question = Untouchable()
        self.assertIs(ranked.query(question), answer)
        self.assertIs(asked[0], question)

    def test_ask_may_fail(self):
        for many in (0, 1, 4):
            spy = OuterSpy()
            ranked = queue_of(spy, many)
            log = ranked.log()
            for error in ERRORS:
                spy.fail(0, error)
                with self.assertRaises(type(error)) as caught:
                    ranked.query("q")
                self.assertIs(caught.exception, error)
                self.assertIs(ranked.torn, False)
                self.assertEqual((ranked.log(), len(ranked)), (log, many))
            self.assertEqual(ranked.query("q"), ("q", tuple(sorted([id(member) for member in spy.inside]))))
            self.assertEqual(ranked.add("x"), many)


class WrongRanks(unittest.TestCase):
    def test_what_is_no_integer(self):
        for many in (0, 3):
            spy = OuterSpy()
            ranked = queue_of(spy, many)
            calls, log = len(spy.calls), ranked.log()
            for rank in [*NO_RANKS, ranked, spy.push, "x" * 50]:
                with self.assertRaises(BadNumber):
                    ranked.add("x", rank=rank)
                self.assertIs(ranked.torn, False)
                self.assertEqual((ranked.log(), len(ranked), len(spy.calls)), (log, many, calls))
            self.assertEqual(ranked.add("x", rank=5), many)

    def test_an_integer_of_a_class_of_its_own(self):
        class Own(int):
            pass

        ranked = queue_of(OuterSpy(), 1)
        self.assertEqual([ranked.add("x", rank=Own(rank)) for rank in (-1, 2, 1)], [1, 2, 3])
        self.assertEqual([ranked.remove_first() for _ in range(4)], [2, 3, 0, 1])

    def test_it_is_a_value_error(self):
        with self.assertRaises(ValueError):
            queue_of(OuterSpy(), 0).add("x", rank="1")


def torn_refused(ranked):
    """The calls that are refused while a collection is torn."""
    calls = [
        lambda: ranked.add("x"),
        lambda: ranked.add("x", rank=3),
        lambda: ranked.first(),
        lambda: ranked.remove_first(),
        lambda: ranked.query("q"),
        lambda: ranked.numbers(),
        lambda: ranked.plan_add(),
        lambda: ranked.plan_remove(),
    ]
    return calls + [lambda rank=rank: ranked.add("x", rank=rank) for rank in NO_RANKS]


def torn_cases():
    """Histories, with an operation after them and the index of a push or pop in it."""
    for seed in range(16):
        source, model = random.Random(seed), RankedModel()
        history = some_history(KIND, model, source, 2 * seed, adding=3 + seed % 3)
        for operation in KIND.operations(model):
            if operation[0] != "query":
                for later in range(len(model.plan(operation))):
                    yield history, operation, later


def before_error(history):
    """A spy, a collection and a model after a history."""
    spy, ranked, model = KIND.fresh()
    for operation in history:
        KIND.apply(ranked, operation)
        model.advance(operation)
    return spy, ranked, model


def torn_after(history, operation, later, late):
    """A torn collection and its model, and the log that it must have."""
    spy, ranked, model = before_error(history)
    log = ranked.log() + model.plan(operation)[:later]
    spy.late = late
    spy.fail(later, Failure())
    try:
        KIND.apply(ranked, operation)
    except Failure:
        pass
    return ranked, model, log


class Tearing(unittest.TestCase):
    def check_torn(self, ranked, model, log):
        """A torn collection refuses all but what is named, and has the stack and members of before."""
        self.assertIs(ranked.torn, True)
        self.assertEqual(set(errors_of(torn_refused(ranked))), {Torn})
        self.assertEqual(ranked.log(), log)
        self.assertEqual(ranked.members(), model.members())
        self.assertEqual(list(ranked.pairs()), list(model.present.items()))
        self.assertEqual(ranked.stack(), model.stack)
        self.assertEqual((len(ranked), repr(ranked)), (len(model.present), f"Ranked({len(model.present)})"))
        self.assertEqual(bool(ranked), len(model.present) > 0)

    def check_whole(self, spy, ranked, model):
        """A collection that is not torn is as its model says."""
        self.assertIs(ranked.torn, False)
        self.assertEqual(ranked.stack(), model.stack)
        self.assertEqual(spy.inside, [model.present[number] for number in model.stack])
        self.assertEqual(list(ranked.pairs()), list(model.present.items()))
        self.assertEqual(ranked.numbers(), list(model.present))
        self.assertEqual(ranked.plan_add(), model.plan(("add", "x", 0)))
        if model.present:
            self.assertEqual(ranked.first(), model.order()[0])
            self.assertEqual(ranked.plan_remove(), model.plan(("remove", model.order()[0])))
        self.assertEqual(ranked.query("q"), spy.answer(model.members(), "q"))

    def test_each_push_and_pop(self):
        for history, operation, later in torn_cases():
            for late in (False, True):
                ranked, model, log = torn_after(history, operation, later, late)
                self.check_torn(ranked, model, log)
                other = OuterSpy()
                self.assertIsNone(ranked.mend(other.push, other.pop, other.ask))
                log += [("push", number) for number in model.stack]
                self.assertEqual(ranked.log(), log)
                self.assertEqual(other.calls, [("push", (model.present[number],)) for number in model.stack])
                self.check_whole(other, ranked, model)
                # The call that raised the error is done as if it had not been tried before.
                log = ranked.log() + model.plan(operation)
                self.assertEqual(KIND.apply(ranked, operation), KIND.result(other, model, operation))
                model.advance(operation)
                self.assertEqual(ranked.log(), log)
                self.check_whole(other, ranked, model)

    def test_the_first_member_of_all(self):
        spy = OuterSpy()
        ranked = queue_of(spy, 0)
        spy.fail(0, Failure())
        with self.assertRaises(Failure):
            ranked.add("a")
        self.check_torn(ranked, RankedModel(), [])
        other = OuterSpy()
        ranked.mend(other.push, other.pop, other.ask)
        self.assertEqual((other.calls, ranked.log()), ([], []))
        self.check_whole(other, ranked, RankedModel())
        self.assertEqual(ranked.add("b"), 0)

    def test_any_error(self):
        for error in ERRORS:
            for action in (lambda ranked: ranked.add("x"), lambda ranked: ranked.remove_first()):
                for later in (0, 3):
                    spy = OuterSpy()
                    ranked = queue_of(spy, 3)
                    if action(queue_of(OuterSpy(), 3)) == 3 and later > 0:
                        continue
                    spy.fail(later, error)
                    with self.assertRaises(type(error)) as caught:
                        action(ranked)
                    self.assertIs(caught.exception, error)
                    self.assertIs(ranked.torn, True)

    def test_torn_is_a_property_that_raises_nothing(self):
        self.assertIsInstance(vars(Ranked)["torn"], property)
        spy = OuterSpy()
        ranked = queue_of(spy, 2)
        seen = []
        spy.hook = lambda name, values: seen.append((name, ranked.torn))
        self.assertIs(ranked.torn, False)
        ranked.add("x")
        ranked.query("q")
        ranked.remove_first()
        spy.fail(0, Failure())
        with self.assertRaises(Failure):
            ranked.add("y")
        # It is torn from the error on, not while the callable is still running.
        self.assertEqual({torn for name, torn in seen}, {False})
        self.assertIs(ranked.torn, True)
        other, seen = OuterSpy(), []
        other.hook = lambda name, values: seen.append((name, ranked.torn))
        ranked.mend(other.push, other.pop, other.ask)
        # It stays torn until the end of mending.
        self.assertEqual(seen, [("push", True)] * 2)
        self.assertIs(ranked.torn, False)

    def test_errors_of_wrong_calls_tear_nothing(self):
        spy = OuterSpy()
        ranked = queue_of(spy, 0)
        found = errors_of([ranked.first, ranked.remove_first, ranked.plan_remove, lambda: ranked.add(1, rank=None),
                           lambda: ranked.mend(spy.push, spy.pop, spy.ask)])
        self.assertEqual(found, [Empty, Empty, Empty, BadNumber, NotTorn])
        self.assertIs(ranked.torn, False)

    def test_torn_comes_before_the_listed_errors(self):
        spy = OuterSpy()
        ranked = queue_of(spy, 0)
        spy.fail(0, Failure())
        with self.assertRaises(Failure):
            ranked.add("x")
        # Without members, and with wrong ranks, Torn is raised all the same.
        self.assertEqual(set(errors_of(torn_refused(ranked))), {Torn})

    def test_a_refused_call_calls_nothing(self):
        spy = OuterSpy()
        ranked = queue_of(spy, 3)
        spy.fail(0, Failure())
        with self.assertRaises(Failure):
            ranked.remove_first()
        calls = len(spy.calls)
        errors_of(torn_refused(ranked))
        self.assertEqual(len(spy.calls), calls)

    def test_pairs_of_a_torn_collection(self):
        spy = OuterSpy()
        ranked = queue_of(spy, 3)
        begun = ranked.pairs()
        next(begun)
        spy.fail(2, Failure())
        with self.assertRaises(Failure):
            ranked.remove_first()
        self.assertEqual(list(begun), [(1, "m1"), (2, "m2")])
        self.assertEqual(list(ranked.pairs()), [(0, "m0"), (1, "m1"), (2, "m2")])

    def test_the_stack_is_a_new_list(self):
        spy = OuterSpy()
        ranked = queue_of(spy, 3)
        ranked.stack().append(9)
        ranked.stack().reverse()
        self.assertEqual(ranked.stack(), [0, 1, 2])
        kept = ranked.stack()
        ranked.remove_first()
        self.assertEqual((kept, ranked.stack()), ([0, 1, 2], [1, 2]))
        spy.fail(0, Failure())
        with self.assertRaises(Failure):
            ranked.remove_first()
        ranked.stack().clear()
        self.assertEqual(ranked.stack(), [1, 2])
        other = OuterSpy()
        ranked.mend(other.push, other.pop, other.ask)
        self.assertEqual(other.inside, ["m1", "m2"])


class Mending(unittest.TestCase):
    def torn(self, many, ranks=None):
        spy = OuterSpy()
        ranked = of_ranks(spy, ranks if ranks is not None else [0] * many)
        spy.fail(0, Failure())
        with self.assertRaises(Failure):
            ranked.remove_first()
        return ranked

    def test_not_torn(self):
        for many in (0, 1, 5):
            spy = OuterSpy()
            ranked = queue_of(spy, many)
            other = OuterSpy()
            for arguments in ((other.push, other.pop, other.ask), (None, None, None)):
                with self.assertRaises(NotTorn):
                    ranked.mend(*arguments)
            self.assertEqual(other.calls, [])
            # The callables are the old ones.
            ranked.add("x")
            ranked.query("q")
            self.assertEqual((other.calls, spy.names()[-2:]), ([], ["push", "ask"]))

    def test_the_new_callables_are_used_from_then_on(self):
        ranked = self.torn(3)
        other = OuterSpy()
        ranked.mend(other.push, other.pop, other.ask)
        ranked.add("x")
        ranked.query("q")
        ranked.remove_first()
        self.assertEqual(set(other.names()), {"push", "pop", "ask"})
        self.assertEqual(other.inside, ["m1", "m2", "x"])
        with self.assertRaises(NotTorn):
            ranked.mend(other.push, other.pop, other.ask)

    def test_by_name(self):
        ranked = self.torn(2)
        other = OuterSpy()
        self.assertIsNone(ranked.mend(ask=other.ask, pop=other.pop, push=other.push))
        self.assertEqual(other.inside, ["m0", "m1"])

    def test_mending_that_fails(self):
        for error in ERRORS:
            for later in range(4):
                ranked = self.torn(4)
                before, log, stack = readings(ranked), ranked.log(), ranked.stack()
                other = OuterSpy()
                other.fail(later, error)
                with self.assertRaises(type(error)) as caught:
                    ranked.mend(other.push, other.pop, other.ask)
                self.assertIs(caught.exception, error)
                log += [("push", number) for number in stack[:later]]
                self.assertEqual((ranked.torn, ranked.stack(), ranked.log()), (True, stack, log))
                self.assertEqual(readings(ranked), before)
                self.assertEqual(set(errors_of(torn_refused(ranked))), {Torn})
                again = OuterSpy()
                ranked.mend(again.push, again.pop, again.ask)
                log += [("push", number) for number in stack]
                self.assertEqual((ranked.torn, ranked.stack(), ranked.log()), (False, stack, log))
                self.assertEqual(again.inside, [f"m{number}" for number in stack])
                self.assertEqual(ranked.remove_first(), 0)

    def test_mending_several_times(self):
        ranked, model = self.torn(6), RankedModel()
        for number in range(6):
            model.advance(("add", f"m{number}", 0))
        while model.present:
            spy = OuterSpy()
            ranked.mend(spy.push, spy.pop, spy.ask)
            operation = ("remove", model.order()[0])
            planned = model.plan(operation)
            self.assertEqual(ranked.plan_remove(), planned)
            self.assertEqual(ranked.remove_first(), operation[1])
            model.advance(operation)
            self.assertEqual(ranked.stack(), model.stack)
            spy.fail(0, Failure())
            with self.assertRaises(Failure):
                ranked.add("lost")
        self.assertEqual((ranked.torn, len(ranked)), (True, 0))

    def test_failed_removals_are_not_counted(self):
        spy = OuterSpy()
        ranked, model = queue_of(spy, 8), RankedModel()
        for number in range(8):
            model.advance(("add", f"m{number}", 0))
        for _ in range(8):
            for _ in range(3):
                spy.fail(0, Failure())
                with self.assertRaises(Failure):
                    ranked.remove_first()
                spy = OuterSpy()
                ranked.mend(spy.push, spy.pop, spy.ask)
            operation = ("remove", model.order()[0])
            self.assertEqual(ranked.plan_remove(), model.plan(operation))
            ranked.remove_first()
            model.advance(operation)
            self.assertEqual(ranked.stack(), model.stack)

    def test_ranks_stay(self):
        ranked = self.torn(5, [2, 9, 2, -1, 9])
        spy = OuterSpy()
        ranked.mend(spy.push, spy.pop, spy.ask)
        self.assertEqual(ranked.add("x", rank=5), 5)
        self.assertEqual([ranked.remove_first() for _ in range(6)], [1, 4, 5, 0, 2, 3])

    def test_busy_while_mending(self):
        ranked = self.torn(3)
        before, log, seen = readings(ranked), ranked.log(), []
        other = OuterSpy()

        def hook(name, values):
            other.hook = None
            seen.append((errors_of(KIND.refused(ranked)), readings(ranked), ranked.log(), ranked.torn))
            other.hook = hook

        other.hook = hook
        ranked.mend(other.push, other.pop, other.ask)
        self.assertEqual(len(seen), 3)
        for at, (refused, read, log_then, torn) in enumerate(seen):
            # Busy comes before Torn, and before NotTorn.
            self.assertEqual(set(refused), {Busy})
            self.assertEqual((read, log_then, torn), (before, log + [("push", n) for n in range(at)], True))

    def test_busy_within_push_and_pop_tears_if_it_is_not_caught(self):
        for action in (lambda ranked: ranked.add("x"), lambda ranked: ranked.remove_first()):
            spy = OuterSpy()
            ranked = queue_of(spy, 3)

            def hook(name, values):
                spy.hook = None
                ranked.stack()

            spy.hook = hook
            with self.assertRaises(Busy):
                action(ranked)
            self.assertIs(ranked.torn, True)
            self.assertEqual(ranked.stack(), [0, 1, 2])

    def test_random_histories_with_errors(self):
        for seed in range(40):
            source, model = random.Random(seed), RankedModel()
            spy = OuterSpy()
            ranked = Ranked(spy.push, spy.pop, spy.ask)
            log, counts = [], Counter()
            for _ in range(70):
                operation = some_operation(KIND, model, source)
                planned = model.plan(operation)
                if source.random() < 0.3:
                    later = source.randrange(len(planned))
                    spy.late = source.random() < 0.5
                    spy.fail(later, Failure())
                    with self.assertRaises(Failure):
                        KIND.apply(ranked, operation)
                    log += planned[:later]
                    self.assertEqual(ranked.torn, operation[0] != "query")
                    if ranked.torn:
                        self.assertEqual((ranked.log(), ranked.stack()), (log, model.stack))
                        spy = OuterSpy()
                        ranked.mend(spy.push, spy.pop, spy.ask)
                        log += [("push", number) for number in model.stack]
                    spy.fail_at = None
                else:
                    self.assertEqual(KIND.apply(ranked, operation), KIND.result(spy, model, operation))
                    model.advance(operation)
                    log += planned
                    counts[operation[0]] += 1
                    counts.update(entry[0] for entry in planned)
                    if counts["remove"] > 0:
                        most = total_built(counts["remove"]) + counts["remove"].bit_length() * counts["add"]
                        self.assertLessEqual(counts["pop"], most)
                    self.assertEqual(counts["push"], counts["pop"] + len(ranked))
                self.assertEqual((ranked.log(), ranked.stack()), (log, model.stack))
                self.assertEqual(list(ranked.pairs()), list(model.present.items()))
                self.assertEqual(spy.inside, [model.present[number] for number in model.stack])


class Arguments(unittest.TestCase):
    def test_by_name(self):
        spy = OuterSpy()
        ranked = Ranked(ask=spy.ask, pop=spy.pop, push=spy.push)
        self.assertEqual(ranked.add(member="a"), 0)
        self.assertEqual(ranked.add(rank=2, member="b"), 1)
        self.assertEqual(ranked.query(question="q"), spy.answer(["a", "b"], "q"))
        self.assertEqual(ranked.remove_first(), 1)

    def test_the_rank_by_name_only(self):
        ranked = queue_of(OuterSpy(), 0)
        with self.assertRaises(TypeError):
            ranked.add("a", 2)
        self.assertEqual(len(ranked), 0)

    def test_callables_get_their_arguments_by_position(self):
        held = []

        def push(a, /):
            held.append(a)

        def pop():
            held.pop()

        def ask(a, /):
            return sorted(held)

        ranked = Ranked(push, pop, ask)
        for letter in "abc":
            ranked.add(letter)
        ranked.remove_first()
        self.assertEqual(ranked.query(None), ["b", "c"])

    def test_what_push_and_pop_return_is_ignored(self):
        for returned in (None, False, True, [], Untouchable(), Failure()):
            held = []

            def push(member):
                held.append(member)
                return returned

            def pop():
                held.pop()
                return returned

            ranked = Ranked(push, pop, lambda question: sorted(held))
            self.assertEqual([ranked.add(letter) for letter in "abcd"], [0, 1, 2, 3])
            self.assertEqual([ranked.remove_first() for _ in range(3)], [0, 1, 2])
            self.assertEqual(ranked.query(None), ["d"])


if __name__ == "__main__":
    unittest.main()
