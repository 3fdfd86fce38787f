"""Points 10, 11 and 13: how a Ranked uses its outer structure. What holds for a Timed too is in test_outer."""

import random
import unittest
from collections import Counter

from oncebuilt.errors import BadNumber, Empty
from oncebuilt.plans import total_built
from oncebuilt.ranked import Ranked
from tests.helpers import Failure, OuterSpy
from tests.kinds import NO_INTEGERS, RankedKind, some_operation
from tests.models import RankedModel

KIND = RankedKind()


def of_ranks(spy, ranks):
    ranked = Ranked(spy.push, spy.pop, spy.ask)
    for number, rank in enumerate(ranks):
        ranked.add(f"m{number}", rank=rank)
    return ranked


def queue_of(spy, many):
    return of_ranks(spy, [0] * many)


def check_bounds(test, counts, present):
    """The pops and pushes after so many calls are at most those that point 11 tells."""
    removals = counts["remove"]
    if removals > 0:
        logarithm = removals.bit_length() - 1
        test.assertLessEqual(counts["pop"], total_built(removals) + (logarithm + 1) * counts["add"])
    test.assertEqual(counts["push"], counts["pop"] + present)


class ByHand(unittest.TestCase):
    def check(self, ranked, expected, number, stack):
        """Remove the first member; the calls, its number and the stack are these."""
        log = ranked.log()
        self.assertEqual(ranked.plan_remove(), expected)
        self.assertEqual(ranked.first(), number)
        self.assertEqual(ranked.log(), log)
        self.assertEqual(ranked.remove_first(), number)
        self.assertEqual(ranked.log(), log + expected)
        self.assertEqual(ranked.stack(), stack)

    def test_a_queue(self):
        spy = OuterSpy()
        ranked = queue_of(spy, 5)
        self.assertEqual(ranked.log(), [("push", number) for number in range(5)])
        self.assertEqual(ranked.stack(), [0, 1, 2, 3, 4])
        self.check(ranked, [
            ("pop", 4), ("pop", 3), ("pop", 2), ("pop", 1), ("pop", 0),
            ("push", 1), ("push", 2), ("push", 3), ("push", 4),
        ], 0, [1, 2, 3, 4])
        self.check(ranked, [
            ("pop", 4), ("pop", 3), ("pop", 2), ("pop", 1), ("push", 3), ("push", 4), ("push", 2),
        ], 1, [3, 4, 2])
        self.check(ranked, [("pop", 2)], 2, [3, 4])
        self.assertEqual(ranked.plan_add(), [("push", 5)])
        ranked.add("m5")
        # The fourth removal needs four members, but there are only three.
        self.check(ranked, [
            ("pop", 5), ("pop", 4), ("pop", 3), ("push", 5), ("push", 4),
        ], 3, [5, 4])
        self.check(ranked, [("pop", 4)], 4, [5])
        self.check(ranked, [("pop", 5)], 5, [])
        # The collection was empty, so this is the first removal again.
        for name in "abc":
            ranked.add(name)
        self.check(ranked, [
            ("pop", 8), ("pop", 7), ("pop", 6), ("push", 7), ("push", 8),
        ], 6, [7, 8])
        self.check(ranked, [("pop", 8), ("pop", 7), ("push", 8)], 7, [8])

    def test_ranks(self):
        spy = OuterSpy()
        ranked = of_ranks(spy, [1, 5, 3, 5, -2, 0])
        self.check(ranked, [
            ("pop", 5), ("pop", 4), ("pop", 3), ("pop", 2), ("pop", 1),
            ("push", 2), ("push", 3), ("push", 4), ("push", 5),
        ], 1, [0, 2, 3, 4, 5])
        self.check(ranked, [
            ("pop", 5), ("pop", 4), ("pop", 3), ("pop", 2), ("push", 4), ("push", 5), ("push", 2),
        ], 3, [0, 4, 5, 2])
        # A member of a greater rank is removed before all that are there.
        ranked.add("m6", rank=3)
        ranked.add("m7", rank=4)
        self.check(ranked, [("pop", 7)], 7, [0, 4, 5, 2, 6])
        self.check(ranked, [
            ("pop", 6), ("pop", 2), ("pop", 5), ("pop", 4), ("pop", 0), ("push", 4), ("push", 5), ("push", 0), ("push", 6),
        ], 2, [4, 5, 0, 6])
        self.check(ranked, [("pop", 6)], 6, [4, 5, 0])
        self.check(ranked, [("pop", 0), ("pop", 5), ("push", 5)], 0, [4, 5])
        self.check(ranked, [("pop", 5)], 5, [4])
        self.check(ranked, [("pop", 4)], 4, [])

    def test_one_member(self):
        spy = OuterSpy()
        ranked = queue_of(spy, 1)
        for number in range(6):
            self.check(ranked, [("pop", number)], number, [])
            ranked.add("next")

    def test_members_that_are_pushed(self):
        spy = OuterSpy()
        ranked = queue_of(spy, 3)
        ranked.remove_first()
        self.assertEqual(spy.calls, [
            ("push", ("m0",)), ("push", ("m1",)), ("push", ("m2",)), ("pop", ()), ("pop", ()), ("pop", ()),
            ("push", ("m1",)), ("push", ("m2",)),
        ])
        self.assertEqual(spy.inside, ["m1", "m2"])


class Removing(unittest.TestCase):
    def test_the_first_one_is_removed(self):
        for seed in range(40):
            source = random.Random(seed)
            ranks = {}
            ranked = queue_of(OuterSpy(), 0)
            spread = source.choice([0, 1, 3, 10 ** 30])
            for _ in range(80):
                if ranks and source.random() < 0.45:
                    first = min(ranks, key=lambda number: (-ranks[number], number))
                    self.assertEqual(ranked.first(), first)
                    self.assertEqual(ranked.remove_first(), first)
                    del ranks[first]
                else:
                    rank = source.randint(-spread, spread)
                    ranks[ranked.add("x", rank=rank)] = rank
                self.assertEqual(ranked.numbers(), sorted(ranks))
                self.assertEqual(sorted(ranked.stack()), sorted(ranks))
                self.assertEqual(len(ranked), len(ranks))

    def test_equal_ranks_are_a_queue(self):
        for rank in (0, 7, -10 ** 30):
            spy = OuterSpy()
            ranked = of_ranks(spy, [rank] * 30)
            self.assertEqual([ranked.remove_first() for _ in range(30)], list(range(30)))
            self.assertEqual((ranked.stack(), spy.inside), ([], []))

    def test_the_rank_is_zero_by_default(self):
        spy = OuterSpy()
        ranked = queue_of(spy, 0)
        ranked.add("a", rank=-1)
        ranked.add("b")
        ranked.add("c", rank=1)
        ranked.add("d", rank=0)
        self.assertEqual([ranked.remove_first() for _ in range(4)], [2, 1, 3, 0])

    def test_great_ranks(self):
        spy = OuterSpy()
        ranks = [10 ** 30 - 1, -10 ** 30 + 1, 10 ** 30 - 2, 10 ** 40, -10 ** 40]
        ranked = of_ranks(spy, ranks)
        self.assertEqual([ranked.remove_first() for _ in range(5)], [3, 0, 2, 1, 4])

    def test_without_members(self):
        spy = OuterSpy()
        ranked = queue_of(spy, 0)
        for _ in range(2):
            for action in (ranked.first, ranked.remove_first, ranked.plan_remove):
                with self.assertRaises(Empty):
                    action()
                self.assertIs(ranked.torn, False)
            self.assertEqual((ranked.numbers(), ranked.stack(), len(ranked)), ([], [], 0))
            log = ranked.log()
            self.assertEqual(ranked.query("q"), ("q", ()))
            self.assertEqual(ranked.log(), log + [("ask",)])
            ranked.add("a")
            ranked.remove_first()

    def test_the_bounds(self):
        for seed in range(60):
            source, model = random.Random(seed), RankedModel()
            spy = OuterSpy()
            ranked = queue_of(spy, 0)
            adding, removing = source.choice([(5, 3), (5, 5), (9, 8), (4, 5)])
            counts = Counter()
            for _ in range(150):
                operation = some_operation(KIND, model, source, adding=adding, removing=removing)
                entries = KIND.plan(ranked, operation)
                KIND.apply(ranked, operation)
                model.advance(operation)
                counts[operation[0]] += 1
                counts.update(entry[0] for entry in entries)
                check_bounds(self, counts, len(ranked))

    def test_the_bounds_of_a_queue_that_is_emptied(self):
        for many in (1, 2, 3, 7, 8, 9, 64, 100, 300):
            spy = OuterSpy()
            ranked = queue_of(spy, many)
            counts = Counter(add=many, push=many)
            while ranked:
                counts["remove"] += 1
                counts.update(entry[0] for entry in ranked.plan_remove())
                ranked.remove_first()
                check_bounds(self, counts, len(ranked))

    def test_many_members(self):
        source = random.Random(3)
        spy = OuterSpy()
        ranked = of_ranks(spy, [source.randint(-5, 5) for _ in range(1000)])
        numbers = [ranked.remove_first() for _ in range(1000)]
        self.assertEqual(sorted(numbers), list(range(1000)))
        self.assertEqual(spy.inside, [])


class Asking(unittest.TestCase):
    def test_answers_are_those_of_the_present_members(self):
        for seed in range(30):
            source, model = random.Random(seed), RankedModel()
            spy = OuterSpy()
            ranked = queue_of(spy, 0)
            for _ in range(60):
                operation = some_operation(KIND, model, source)
                KIND.apply(ranked, operation)
                model.advance(operation)
                self.assertEqual(Counter(spy.inside), Counter(model.members()))
                self.assertEqual(spy.inside, [model.present[number] for number in ranked.stack()])
                self.assertEqual(ranked.query("q"), spy.answer(model.members(), "q"))

    def test_other_structures(self):
        def sums():
            held = [0]
            return (lambda member: held.append(held[-1] + member), held.pop, lambda factor: factor * held[-1])

        def greatest():
            held = []
            return (held.append, lambda: held.pop(), lambda least: max([least, *held]))

        for made, expected in ((sums, lambda present: 4 * sum(present)),
                               (greatest, lambda present: max([4, *present]))):
            source, ranked, present = random.Random(21), Ranked(*made()), {}
            for _ in range(200):
                if present and source.random() < 0.45:
                    del present[ranked.remove_first()]
                else:
                    member = source.randint(0, 50)
                    present[ranked.add(member, rank=source.randint(0, 3))] = member
                self.assertEqual(ranked.query(4), expected(list(present.values())))


class WrongRanks(unittest.TestCase):
    def test_what_is_no_integer(self):
        for many in (0, 3):
            spy = OuterSpy()
            ranked = queue_of(spy, many)
            calls, log = len(spy.calls), ranked.log()
            for rank in [*NO_INTEGERS, ranked, spy.push, "x" * 50]:
                with self.assertRaises(BadNumber):
                    ranked.add("x", rank=rank)
                self.assertIs(ranked.torn, False)
                self.assertEqual((ranked.log(), len(ranked), len(spy.calls)), (log, many, calls))
            self.assertEqual(ranked.add("x", rank=5), many)

    def test_an_integer_of_a_class_of_its_own(self):
        class Own(int):
            pass

        ranked = queue_of(OuterSpy(), 1)
        self.assertEqual([ranked.add("x", rank=Own(rank)) for rank in (-1, 2, 1)], [1, 2, 3])
        self.assertEqual([ranked.remove_first() for _ in range(4)], [2, 3, 0, 1])

    def test_it_is_a_value_error(self):
        with self.assertRaises(ValueError):
            queue_of(OuterSpy(), 0).add("x", rank="1")


class Mending(unittest.TestCase):
    def torn(self, many, ranks=None):
        spy = OuterSpy()
        ranked = of_ranks(spy, ranks if ranks is not None else [0] * many)
        spy.fail(0, Failure())
        with self.assertRaises(Failure):
            ranked.remove_first()
        return ranked

    def test_failed_removals_are_not_counted(self):
        spy = OuterSpy()
        ranked, model = queue_of(spy, 8), RankedModel()
        for number in range(8):
            model.advance(("add", f"m{number}", 0))
        for _ in range(8):
            for _ in range(3):
                spy.fail(0, Failure())
                with self.assertRaises(Failure):
                    ranked.remove_first()
                spy = OuterSpy()
                ranked.mend(spy.push, spy.pop, spy.ask)
            operation = ("remove", model.order()[0])
            self.assertEqual(ranked.plan_remove(), model.plan(operation))
            ranked.remove_first()
            model.advance(operation)
            self.assertEqual(ranked.stack(), model.stack)

    def test_ranks_stay(self):
        ranked = self.torn(5, [2, 9, 2, -1, 9])
        spy = OuterSpy()
        ranked.mend(spy.push, spy.pop, spy.ask)
        self.assertEqual(ranked.add("x", rank=5), 5)
        self.assertEqual([ranked.remove_first() for _ in range(6)], [1, 4, 5, 0, 2, 3])

    def test_the_bounds_do_not_count_what_raised_an_error(self):
        for seed in range(30):
            source, model = random.Random(seed), RankedModel()
            spy = OuterSpy()
            ranked, counts = queue_of(spy, 0), Counter()
            for _ in range(100):
                operation = some_operation(KIND, model, source, adding=5, removing=4)
                entries = KIND.plan(ranked, operation)
                if source.random() < 0.3 and operation[0] != "query":
                    spy.fail(source.randrange(len(entries)), Failure())
                    with self.assertRaises(Failure):
                        KIND.apply(ranked, operation)
                    spy = OuterSpy()
                    ranked.mend(spy.push, spy.pop, spy.ask)
                else:
                    KIND.apply(ranked, operation)
                    model.advance(operation)
                    counts[operation[0]] += 1
                    counts.update(entry[0] for entry in entries)
                check_bounds(self, counts, len(ranked))


class Arguments(unittest.TestCase):
    def test_by_name(self):
        spy = OuterSpy()
        ranked = Ranked(ask=spy.ask, pop=spy.pop, push=spy.push)
        self.assertEqual(ranked.add(member="a"), 0)
        self.assertEqual(ranked.add(rank=2, member="b"), 1)
        self.assertEqual(ranked.query(question="q"), spy.answer(["a", "b"], "q"))
        self.assertEqual(ranked.remove_first(), 1)

    def test_the_rank_by_name_only(self):
        ranked = queue_of(OuterSpy(), 0)
        with self.assertRaises(TypeError):
            ranked.add("a", 2)
        self.assertEqual(len(ranked), 0)

    def test_callables_get_their_arguments_by_position(self):
        held = []

        def push(a, /):
            held.append(a)

        def pop():
            held.pop()

        def ask(a, /):
            return sorted(held)

        ranked = Ranked(push, pop, ask)
        for letter in "abc":
            ranked.add(letter)
        ranked.remove_first()
        self.assertEqual(ranked.query(None), ["b", "c"])

if __name__ == "__main__":
    unittest.main()
