"""Point 14: the queues TwoStacks and EvenSums, whose members are joined themselves."""

import random
import unittest

from oncebuilt.errors import Busy, Empty
from oncebuilt.sums import EvenSums, TwoStacks
from tests.checks import AnyCollection
from tests.helpers import ERRORS, Failure, Untouchable, errors_of, readings
from tests.kinds import EvenSumsKind, TwoStacksKind, some_operation

KINDS = [TwoStacksKind(), EvenSumsKind()]
ADD, REMOVE, TOTAL = ("add", "x", 0), ("remove", None), ("query", None)


def plus(one, other):
    return one + other


def queue_of(made_class, many):
    """A queue of letters."""
    queue = made_class(plus, zero="zero")
    for number in range(many):
        queue.add(chr(ord("a") + number))
    return queue


def plans(queue):
    """All that a queue tells of its next calls, which shows how its members are joined."""
    return (queue.plan_add(), queue.plan_total(), queue.plan_remove() if queue else None)


class ByHand(unittest.TestCase):
    def check(self, queue, action, entries, result):
        """Do an action; its calls and its result are these."""
        log = queue.log()
        plan = {"add": queue.plan_add, "remove_oldest": queue.plan_remove, "total": queue.plan_total}[action[0]]
        self.assertEqual(plan(), entries)
        self.assertEqual(queue.log(), log)
        self.assertEqual(getattr(queue, action[0])(*action[1:]), result)
        self.assertEqual(queue.log(), log + entries)

    def test_two_stacks(self):
        queue = TwoStacks(plus, zero="zero")
        self.check(queue, ("total",), [], "zero")
        self.check(queue, ("add", "a"), [], 0)
        self.check(queue, ("total",), [], "a")
        self.check(queue, ("add", "b"), [("join", (0, 1), (1, 2))], 1)
        self.check(queue, ("add", "c"), [("join", (0, 2), (2, 3))], 2)
        self.check(queue, ("add", "d"), [("join", (0, 3), (3, 4))], 3)
        self.check(queue, ("total",), [], "abcd")
        self.check(queue, ("remove_oldest",), [
            ("join", (2, 3), (3, 4)), ("join", (1, 2), (2, 4)), ("join", (0, 1), (1, 4)),
        ], 0)
        self.check(queue, ("total",), [], "bcd")
        self.check(queue, ("add", "e"), [], 4)
        self.check(queue, ("total",), [("join", (1, 4), (4, 5))], "bcde")
        self.check(queue, ("remove_oldest",), [], 1)
        self.check(queue, ("add", "f"), [("join", (4, 5), (5, 6))], 5)
        self.check(queue, ("total",), [("join", (2, 4), (4, 6))], "cdef")
        self.check(queue, ("remove_oldest",), [], 2)
        self.check(queue, ("remove_oldest",), [], 3)
        self.check(queue, ("total",), [], "ef")
        self.check(queue, ("remove_oldest",), [("join", (4, 5), (5, 6))], 4)
        self.check(queue, ("remove_oldest",), [], 5)
        self.check(queue, ("total",), [], "zero")
        self.check(queue, ("add", "g"), [], 6)
        self.check(queue, ("remove_oldest",), [], 6)

    def test_even_sums_while_members_are_added(self):
        queue = EvenSums(plus, zero="zero")
        self.check(queue, ("total",), [], "zero")
        # The first member is the back, which is more than the front has: a rebuild, which ends at once.
        self.check(queue, ("add", "a"), [], 0)
        self.check(queue, ("total",), [], "a")
        self.check(queue, ("add", "b"), [], 1)
        self.check(queue, ("total",), [("join", (0, 1), (1, 2))], "ab")
        # Front 0, back 1 and 2: a rebuild, whose first step is 2.
        self.check(queue, ("add", "c"), [("join", (1, 2), (2, 3))], 2)
        self.check(queue, ("total",), [("join", (0, 1), (1, 3))], "abc")
        self.check(queue, ("add", "d"), [("join", (1, 2), (2, 3))], 3)
        self.check(queue, ("total",), [("join", (0, 1), (1, 3)), ("join", (0, 3), (3, 4))], "abcd")
        # Its last step is 0; the front is 0 to 2, the back 3 and 4.
        self.check(queue, ("add", "e"), [("join", (3, 4), (4, 5)), ("join", (0, 1), (1, 3))], 4)
        self.check(queue, ("total",), [("join", (0, 3), (3, 5))], "abcde")
        self.check(queue, ("add", "f"), [("join", (3, 5), (5, 6))], 5)
        # Back 3 to 6: a rebuild of 0 to 6.
        self.check(queue, ("add", "g"), [("join", (3, 6), (6, 7))], 6)
        self.check(queue, ("add", "h"), [("join", (5, 6), (6, 7))], 7)
        self.check(queue, ("add", "i"), [("join", (7, 8), (8, 9)), ("join", (4, 5), (5, 7))], 8)
        self.check(queue, ("total",), [("join", (0, 3), (3, 7)), ("join", (0, 7), (7, 9))], "abcdefghi")
        self.check(queue, ("remove_oldest",), [("join", (3, 4), (4, 7))], 0)
        self.check(queue, ("total",), [("join", (1, 3), (3, 7)), ("join", (1, 7), (7, 9))], "bcdefghi")
        self.check(queue, ("remove_oldest",), [("join", (2, 3), (3, 7))], 1)
        self.check(queue, ("total",), [("join", (2, 7), (7, 9))], "cdefghi")

    def test_even_sums_while_members_are_removed(self):
        queue = queue_of(EvenSums, 6)
        # Front 0 to 2, back 3 to 5.
        self.check(queue, ("total",), [("join", (0, 3), (3, 6))], "abcdef")
        self.check(queue, ("remove_oldest",), [], 0)
        self.check(queue, ("total",), [("join", (1, 3), (3, 6))], "bcdef")
        self.check(queue, ("remove_oldest",), [("join", (4, 5), (5, 6))], 1)
        self.check(queue, ("total",), [("join", (2, 3), (3, 6))], "cdef")
        # The front is empty now, and 3 is the oldest: its new join ends the rebuild.
        self.check(queue, ("remove_oldest",), [("join", (3, 4), (4, 6))], 2)
        self.check(queue, ("total",), [], "def")
        self.check(queue, ("remove_oldest",), [], 3)
        self.check(queue, ("remove_oldest",), [], 4)
        self.check(queue, ("total",), [], "f")
        self.check(queue, ("remove_oldest",), [], 5)
        self.check(queue, ("total",), [], "zero")
        self.check(queue, ("add", "g"), [], 6)
        self.check(queue, ("add", "h"), [], 7)
        # Front 6, back 7: without 6 the back has more members, and a rebuild ends at once.
        self.check(queue, ("remove_oldest",), [], 6)
        self.check(queue, ("total",), [], "h")

    def test_a_removal_that_reaches_what_is_renewed_takes_no_step(self):
        queue = queue_of(EvenSums, 4)
        # Front 0, back 1 and 2, which have their new joins, second back 3.
        self.check(queue, ("remove_oldest",), [], 0)
        self.check(queue, ("total",), [("join", (1, 3), (3, 4))], "bcd")
        self.check(queue, ("add", "e"), [("join", (3, 4), (4, 5))], 4)
        # Front 1 and 2, back 3 to 5: a rebuild.
        self.check(queue, ("add", "f"), [("join", (3, 5), (5, 6))], 5)
        self.check(queue, ("add", "g"), [("join", (4, 5), (5, 6))], 6)
        self.check(queue, ("add", "h"), [("join", (6, 7), (7, 8)), ("join", (3, 4), (4, 6))], 7)
        self.check(queue, ("total",), [("join", (1, 3), (3, 6)), ("join", (1, 6), (6, 8))], "bcdefgh")
        self.check(queue, ("remove_oldest",), [("join", (2, 3), (3, 6))], 1)
        self.check(queue, ("total",), [("join", (2, 6), (6, 8))], "cdefgh")


class Totals(AnyCollection):
    def test_totals_against_a_plain_list(self):
        for kind in KINDS:
            for seed in range(60):
                source, present, given = random.Random(seed), [], 0
                queue = kind.made_class(plus, zero="zero")
                adding = source.choice([0.3, 0.5, 0.7, 0.9])
                for _ in range(150):
                    if present and source.random() > adding:
                        self.assertEqual(queue.remove_oldest(), given - len(present))
                        present.pop(0)
                    else:
                        letter = source.choice("abcdefgh")
                        present.append(letter)
                        self.assertEqual(queue.add(letter), given)
                        given += 1
                    if source.random() < 0.7:
                        self.assertEqual(queue.total(), "".join(present) if present else "zero")
                    self.assertEqual(queue.members(), present)
                    self.assertEqual(queue.numbers(), list(range(given - len(present), given)))

    def test_other_joins(self):
        def product(one, other):
            (a, b), (c, d) = one
            (e, f), (g, h) = other
            return ((a * e + b * g, a * f + b * h), (c * e + d * g, c * f + d * h))

        def last(one, other):
            return other

        def after(one, other):
            return {**one, **other}

        def some_matrix(source):
            return tuple(tuple(source.randint(-2, 2) for _ in range(2)) for _ in range(2))

        def some_dict(source):
            return {source.choice("abc"): source.randint(0, 9)}

        cases = [(product, some_matrix), (max, lambda source: source.randint(0, 99)), (after, some_dict),
                 (last, lambda source: source.randint(0, 99)), (min, lambda source: source.randint(0, 99))]
        for kind in KINDS:
            for join, made in cases:
                source, queue, present = random.Random(4), kind.made_class(join), []
                for _ in range(200):
                    if present and source.random() < 0.45:
                        queue.remove_oldest()
                        present.pop(0)
                    else:
                        present.append(made(source))
                        queue.add(present[-1])
                    expected = present[0] if present else None
                    for member in present[1:]:
                        expected = join(expected, member)
                    self.assertEqual(queue.total(), expected)

    def test_a_single_member_itself(self):
        for kind in KINDS:
            for member in (Untouchable(), None, [], "", 0, False):
                queue = kind.made_class(None, zero="zero")
                queue.add(member)
                self.assertIs(queue.total(), member)
                self.assertEqual((queue.plan_total(), queue.log()), ([], []))

    def test_a_single_member_that_is_left(self):
        for kind in KINDS:
            for many in range(1, 12):
                queue, members = kind.made_class(lambda one, other: Untouchable()), []
                for _ in range(many):
                    members.append([])
                    queue.add(members[-1])
                for _ in range(many - 1):
                    queue.remove_oldest()
                self.assertIs(queue.total(), members[-1])

    def test_without_members_zero_itself(self):
        for kind in KINDS:
            zero = Untouchable()
            queue = kind.made_class(None, zero=zero)
            self.assertIs(queue.total(), zero)
            queue.add("a")
            queue.remove_oldest()
            self.assertIs(queue.total(), zero)
            self.assertEqual((queue.plan_total(), queue.log()), ([], []))
            self.assertIsNone(kind.made_class(plus).total())

    def test_what_join_returns_may_be_none_or_false(self):
        for kind in KINDS:
            for value in (None, False, 0, "", [], ()):
                calls = []

                def join(*values):
                    calls.append(values)
                    return value

                queue, model = kind.made_class(join, zero="zero"), kind.models()
                source = random.Random(6)
                for _ in range(80):
                    operation = some_operation(kind, model, source, adding=4)
                    planned, before = model.plan(operation), len(calls)
                    kind.apply(queue, operation)
                    self.assertEqual(len(calls) - before, len(planned))
                    model.advance(operation)
                if len(queue) > 1:
                    self.assertEqual(queue.total(), value)

    def test_join_gets_the_joins_that_are_logged(self):
        for kind in KINDS:
            for seed in range(20):
                spy, queue, model = kind.fresh()
                source, members, expected = random.Random(seed), [], []
                for _ in range(80):
                    operation = some_operation(kind, model, source)
                    for _, (begin, middle), (_, end) in model.plan(operation):
                        known = members + [operation[1]] if operation[0] == "add" else members
                        expected.append(("join", ("".join(known[begin:middle]), "".join(known[middle:end]))))
                    self.check_operation(kind, spy, queue, model, operation)
                    if operation[0] == "add":
                        members.append(operation[1])
                self.assertEqual(spy.calls, expected)


class Bounds(unittest.TestCase):
    def check_history(self, queue, source, adding, steps=300):
        counts = {}
        for _ in range(steps):
            action = "add" if not queue or source.random() < adding else "remove_oldest"
            for name in (action, "total"):
                log = len(queue.log())
                getattr(queue, name)(*("x",) * (name == "add"))
                counts[name] = max(counts.get(name, 0), len(queue.log()) - log)
        return counts

    def test_even_sums_never_join_often(self):
        most = {"add": 2, "remove_oldest": 1, "total": 2}
        reached = {}
        for seed in range(60):
            source = random.Random(seed)
            counts = self.check_history(EvenSums(plus), source, source.choice([0.35, 0.5, 0.6, 0.9]))
            for name, count in counts.items():
                self.assertLessEqual(count, most[name])
                reached[name] = max(reached.get(name, 0), count)
        self.assertEqual(reached, most)

    def test_even_sums_that_grow_and_are_emptied(self):
        for many in [*range(1, 40), 100, 300]:
            queue = EvenSums(plus, zero="")
            for number in range(many):
                self.assertLessEqual(len(queue.plan_add()), 2)
                queue.add("x")
            while queue:
                self.assertLessEqual(len(queue.plan_remove()), 1)
                self.assertLessEqual(len(queue.plan_total()), 2)
                queue.remove_oldest()
                self.assertEqual(len(queue.total()), len(queue))

    def test_every_short_history(self):
        for kind in KINDS:
            for code in range(2 ** 11):
                queue, model = kind.made_class(plus, zero=""), kind.models()
                for at in range(11):
                    operation = REMOVE if code >> at & 1 and queue else ADD
                    if operation == REMOVE:
                        operation = ("remove", kind.removable(model)[0])
                    planned, log = model.plan(operation), len(queue.log())
                    kind.apply(queue, operation)
                    model.advance(operation)
                    self.assertEqual(queue.log()[log:], planned)
                self.assertEqual((queue.plan_total(), len(queue.total())), (model.plan(TOTAL), len(queue)))

    def test_two_stacks_join_few_times_in_all(self):
        for seed in range(20):
            source = random.Random(seed)
            queue = TwoStacks(plus, zero="")
            most = self.check_history(queue, source, source.choice([0.4, 0.5, 0.6]))
            self.assertLessEqual(most["add"], 1)
            self.assertLessEqual(most["total"], 1)

    def test_as_many_members_as_are_allowed(self):
        for kind in KINDS:
            spy, queue, model = kind.fresh()
            for number in range(1000):
                queue.add("x")
            self.assertEqual(queue.total(), "x" * 1000)
            for number in range(1000):
                self.assertEqual(queue.remove_oldest(), number)
            self.assertEqual((queue.total(), len(queue)), ("zero", 0))


class WhenJoinFails(AnyCollection):
    def test_each_call_of_each_operation(self):
        for kind in KINDS:
            for seed in range(40):
                source = random.Random(seed)
                spy, queue, model = kind.fresh()
                for _ in range(30):
                    for operation in kind.operations(model):
                        self.check_failures(kind, spy, queue, model, operation)
                    self.check_operation(kind, spy, queue, model, some_operation(kind, model, source, adding=4))

    def check_failures(self, kind, spy, queue, model, operation):
        """Let each call of an operation fail; the collection is exactly as before, apart from the log."""
        planned = model.plan(operation)
        for later in range(len(planned)):
            log, before = queue.log(), (readings(queue), queue.numbers(), plans(queue))
            spy.fail(later, Failure())
            with self.assertRaises(Failure):
                kind.apply(queue, operation)
            spy.fail_at = None
            self.assertEqual(queue.log(), log + planned[:later])
            self.assertEqual((readings(queue), queue.numbers(), plans(queue)), before)
            self.check_state(queue, model)

    def test_any_error(self):
        for kind in KINDS:
            for error in ERRORS:
                for many in range(2, 9):
                    spy, queue, model = kind.fresh()
                    for number in range(many):
                        queue.add(f"m{number}")
                        model.advance(("add", f"m{number}", 0))
                    for operation in kind.operations(model):
                        for later in range(len(model.plan(operation))):
                            spy.fail(later, error)
                            with self.assertRaises(type(error)) as caught:
                                kind.apply(queue, operation)
                            self.assertIs(caught.exception, error)
                            spy.fail_at = None
                            self.check_state(queue, model)

    def test_a_call_that_fails_many_times(self):
        for kind in KINDS:
            spy, queue, model = kind.fresh()
            for number in range(60):
                operation = ("add", f"m{number}", 0)
                for _ in range(3):
                    self.check_failures(kind, spy, queue, model, operation)
                self.check_operation(kind, spy, queue, model, operation)
            while queue:
                operation = ("remove", kind.removable(model)[0])
                for _ in range(3):
                    self.check_failures(kind, spy, queue, model, operation)
                self.check_operation(kind, spy, queue, model, operation)

    def test_totals_stay_correct(self):
        for kind in KINDS:
            for seed in range(30):
                source, present = random.Random(seed), []
                failing = [False]

                def join(one, other):
                    if failing[0] and source.random() < 0.5:
                        raise Failure()
                    return one + other

                queue = kind.made_class(join, zero="")
                for step in range(200):
                    failing[0] = True
                    removes = present and source.random() < 0.45
                    action = queue.remove_oldest if removes else lambda: queue.add(str(step))
                    if errors_of([action]) == [None]:
                        present = present[1:] if removes else present + [str(step)]
                    failing[0] = False
                    self.assertEqual((queue.total(), queue.members()), ("".join(present), present))


class WithoutMembers(unittest.TestCase):
    def test_empty(self):
        for kind in KINDS:
            queue = kind.made_class(plus, zero="zero")
            for _ in range(3):
                for action in (queue.remove_oldest, queue.plan_remove):
                    with self.assertRaises(Empty):
                        action()
                    with self.assertRaises(IndexError):
                        action()
                self.assertEqual((queue.members(), queue.numbers(), len(queue)), ([], [], 0))
                self.assertEqual((queue.plan_add(), queue.plan_total(), queue.log()), ([], [], []))
                queue.add("a")
                queue.remove_oldest()

    def test_numbers_are_not_used_again(self):
        for kind in KINDS:
            queue = kind.made_class(plus)
            for number in range(20):
                self.assertEqual(queue.add("x"), number)
                self.assertEqual(queue.numbers(), [number])
                self.assertEqual(queue.remove_oldest(), number)

    def test_busy_comes_before_empty(self):
        # join runs only if there are members, so a collection that is being emptied is never empty.
        for kind in KINDS:
            spy, queue, model = kind.fresh()
            found = []
            spy.hook = lambda name, values: found.extend(errors_of([queue.remove_oldest, queue.plan_remove]))
            for number in range(4):
                queue.add("x")
            self.assertEqual(set(found), {Busy})


class Arguments(unittest.TestCase):
    def test_by_name(self):
        for made_class in (TwoStacks, EvenSums):
            queue = made_class(zero="zero", join=plus)
            self.assertEqual(queue.total(), "zero")
            self.assertEqual([queue.add(member="a"), queue.add("b")], [0, 1])
            self.assertEqual(queue.total(), "ab")

    def test_zero_by_name_only(self):
        for made_class in (TwoStacks, EvenSums):
            with self.assertRaises(TypeError):
                made_class(plus, "zero")

    def test_join_gets_its_arguments_by_position(self):
        for made_class in (TwoStacks, EvenSums):
            def join(a, b, /):
                return a + b

            queue = made_class(join)
            for letter in "abcdefg":
                queue.add(letter)
            queue.remove_oldest()
            self.assertEqual(queue.total(), "bcdefg")

    def test_members_are_not_changed(self):
        for made_class in (TwoStacks, EvenSums):
            queue, members = made_class(plus), [[1], [2], [3], [4], [5]]
            for member in members:
                queue.add(member)
            queue.remove_oldest()
            self.assertEqual(queue.total(), [2, 3, 4, 5])
            self.assertTrue(all(one is other for one, other in zip(queue.members(), members[1:])))
            self.assertEqual(members, [[1], [2], [3], [4], [5]])


if __name__ == "__main__":
    unittest.main()
