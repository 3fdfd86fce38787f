"""Points 12 and 13: a Timed, its clock and its pieces. What holds for a Ranked too is in test_outer."""

import random
import unittest
from collections import Counter

from oncebuilt.errors import BadNumber, NotTorn, OnceError
from oncebuilt.plans import pieces
from oncebuilt.timed import Timed
from tests.helpers import Failure, OuterSpy
from tests.kinds import NO_INTEGERS, TimedKind
from tests.models import TimedModel, dyadic

KIND = TimedKind()


def empty_at(clock):
    """A spy and an empty collection with this clock."""
    spy = OuterSpy()
    timed = Timed(spy.push, spy.pop, spy.ask)
    for _ in range(clock):
        timed.tick()
    return spy, timed


class ByHand(unittest.TestCase):
    def check_tick(self, timed, entries, leaving, stack):
        """Tick once; the calls, the numbers of the leaving members and the stack are these."""
        log, clock = timed.log(), timed.clock()
        self.assertEqual(timed.plan_tick(), entries)
        self.assertEqual((timed.log(), timed.clock()), (log, clock))
        self.assertEqual(timed.tick(), leaving)
        self.assertEqual((timed.log(), timed.clock()), (log + entries, clock + 1))
        self.assertEqual(timed.stack(), stack)

    def test_one_member(self):
        spy, timed = empty_at(2)
        self.assertEqual((timed.log(), timed.clock()), ([], 2))
        self.assertEqual(timed.plan_add(), [("push", 0)])
        self.assertEqual(timed.add("a", until=14), 0)
        self.assertEqual(timed.log(), [("push", 0)])
        # The pieces are (2, 1), and then (3, 1), (4, 4), (8, 4) and (12, 2).
        for clock in range(3, 14):
            again = [("pop", 0), ("push", 0)] if clock in (3, 4, 8, 12) else []
            self.check_tick(timed, again, [], [0])
        self.assertEqual(timed.members(), ["a"])
        self.check_tick(timed, [("pop", 0)], [0], [])
        self.assertEqual(timed.members(), [])
        self.check_tick(timed, [], [], [])

    def test_greater_sizes_are_pushed_first(self):
        spy, timed = empty_at(3)
        for until in (5, 16, 6, 9, 4, 6, 10 ** 9):
            timed.add(f"until {until}", until=until)
        self.assertEqual(timed.stack(), [0, 1, 2, 3, 4, 5, 6])
        # The next pieces of 0 to 6 have the sizes 1, 4, 2, 4, none, 2 and 4.
        self.check_tick(timed, [
            ("pop", 6), ("pop", 5), ("pop", 4), ("pop", 3), ("pop", 2), ("pop", 1), ("pop", 0),
            ("push", 1), ("push", 3), ("push", 6), ("push", 2), ("push", 5), ("push", 0),
        ], [4], [1, 3, 6, 2, 5, 0])
        timed.add("new", until=8)
        self.assertEqual(timed.stack(), [1, 3, 6, 2, 5, 0, 7])
        self.check_tick(timed, [("pop", 7), ("pop", 0), ("push", 7)], [0], [1, 3, 6, 2, 5, 7])
        self.check_tick(timed, [("pop", 7), ("pop", 5), ("pop", 2), ("push", 7)], [2, 5], [1, 3, 6, 7])
        self.check_tick(timed, [], [], [1, 3, 6, 7])
        self.check_tick(timed, [
            ("pop", 7), ("pop", 6), ("pop", 3), ("pop", 1), ("push", 1), ("push", 6), ("push", 3),
        ], [7], [1, 6, 3])
        self.check_tick(timed, [("pop", 3)], [3], [1, 6])
        self.assertEqual(spy.inside, ["until 16", f"until {10 ** 9}"])

    def test_a_member_for_one_tick(self):
        for clock in range(10):
            spy, timed = empty_at(clock)
            timed.add("a", until=clock + 1)
            self.assertEqual((timed.members(), timed.query("q")), (["a"], spy.answer(["a"], "q")))
            self.check_tick(timed, [("pop", 0)], [0], [])

    def test_leaving_members_are_in_ascending_order(self):
        spy, timed = empty_at(0)
        for until in (8, 3, 8, 8):
            timed.add("x", until=until)
        for _ in range(5):
            timed.tick()
        timed.add("x", until=8)
        for _ in range(2):
            self.assertEqual(timed.tick(), [])
        timed.add("x", until=8)
        self.assertEqual(timed.tick(), [0, 2, 3, 4, 5])
        self.assertEqual(timed.numbers(), [])

    def test_equal_sizes_are_pushed_in_the_order_of_their_numbers(self):
        spy, timed = empty_at(2)
        timed.add("a", until=6)
        timed.add("b", until=9)
        timed.tick()
        timed.add("c", until=12)
        timed.add("d", until=8)
        # The next pieces of 1, 2 and 3 have the size 4, that of 0 has the size 2.
        self.check_tick(timed, [
            ("pop", 3), ("pop", 2), ("pop", 1), ("pop", 0), ("push", 1), ("push", 2), ("push", 3), ("push", 0),
        ], [], [1, 2, 3, 0])
        self.assertEqual([timed.tick() for _ in range(5)], [[], [0], [], [3], [1]])


class Presence(unittest.TestCase):
    def check_history(self, source, steps, longest):
        spy, timed = empty_at(0)
        clock, given, present = 0, 0, {}
        for _ in range(steps):
            chosen = source.random()
            if chosen < 0.4:
                member, until = f"m{given}", clock + source.randint(1, longest)
                self.assertEqual(timed.add(member, until=until), given)
                present[given] = (member, until)
                given += 1
            elif chosen < 0.9:
                for _ in range(source.choice([1, 1, 2, 9])):
                    clock += 1
                    leaving = [number for number, (_, until) in present.items() if until == clock]
                    self.assertEqual(timed.tick(), leaving)
                    for number in leaving:
                        del present[number]
            members = [member for member, _ in present.values()]
            self.assertEqual(timed.query("q"), spy.answer(members, "q"))
            self.assertEqual((timed.members(), timed.numbers(), timed.clock()), (members, list(present), clock))
            self.assertEqual(sorted(timed.stack()), list(present))

    def test_random_histories(self):
        for seed in range(40):
            source = random.Random(seed)
            self.check_history(source, 60, source.choice([1, 3, 10, 100]))

    def test_many_ticks_in_a_row(self):
        for seed in range(5):
            source, model = random.Random(seed), TimedModel()
            spy, timed = empty_at(0)
            for _ in range(20):
                for _ in range(source.randint(0, 3)):
                    operation = ("add", f"m{model.given}", source.choice([1, 20, 40, 10 ** 30]))
                    KIND.apply(timed, operation)
                    model.advance(operation)
                for _ in range(source.choice([10, 100])):
                    planned, log = model.plan(("remove", "tick")), len(timed.log())
                    self.assertEqual(timed.plan_tick(), planned)
                    self.assertEqual(timed.tick(), model.leaving())
                    model.advance(("remove", "tick"))
                    self.assertEqual((timed.log()[log:], timed.stack()), (planned, model.stack))
                    self.assertEqual((timed.numbers(), timed.clock()), (list(model.present), model.clock))

    def test_ticks_without_members(self):
        spy, timed = empty_at(0)
        for clock in range(1, 300):
            self.assertEqual((timed.plan_tick(), timed.tick(), timed.clock()), ([], [], clock))
        self.assertEqual((timed.log(), spy.calls, timed.stack()), ([], [], []))
        self.assertEqual(timed.add("a", until=300), 0)

    def test_as_many_members_as_are_allowed(self):
        source = random.Random(2)
        spy, timed = empty_at(0)
        for number in range(1000):
            timed.add(number, until=min(timed.clock() + source.choice([1, 7, 50, 200, 10 ** 9]), 10 ** 9))
            if number % 3 == 0:
                timed.tick()
        for _ in range(300):
            timed.tick()
        self.assertEqual(sorted(timed.stack()), timed.numbers())
        self.assertEqual(sorted(spy.inside), timed.members())

    def test_numbers_are_not_used_again(self):
        spy, timed = empty_at(0)
        for number in range(10):
            self.assertEqual(timed.add("x", until=number + 1), number)
            self.assertEqual(timed.tick(), [number])
            self.assertFalse(timed)


class Pieces(unittest.TestCase):
    def counts(self, timed):
        return Counter(timed.log())

    def test_the_bound(self):
        for clock in range(20):
            for until in range(clock + 1, clock + 40):
                spy, timed = empty_at(clock)
                timed.add("a", until=until)
                bound = 1 + len(pieces(clock + 1, until))
                for at in range(clock + 1, until):
                    self.assertEqual(timed.tick(), [])
                    self.assertLessEqual(self.counts(timed)["push", 0], bound)
                self.assertEqual(self.counts(timed)["push", 0], bound)
                self.assertEqual(timed.tick(), [0])
                self.assertEqual(self.counts(timed), {("push", 0): bound, ("pop", 0): bound})

    def test_the_bound_in_random_histories(self):
        for seed in range(30):
            source, model = random.Random(seed), TimedModel()
            spy, timed = empty_at(0)
            bounds = {}
            for _ in range(150):
                if source.random() < 0.4:
                    operation = ("add", "x", source.choice([0, 1, -1, 2, 7, 30]))
                    until = model.until_of(operation[2])
                    bounds[model.given] = 1 + len(pieces(model.clock + 1, until))
                else:
                    operation = ("remove", "tick")
                if operation[0] == "add" and source.random() < 0.2:
                    spy.fail(0, Failure())
                    with self.assertRaises(Failure):
                        KIND.apply(timed, operation)
                    del bounds[model.given]
                    log = timed.log()
                    spy = OuterSpy()
                    timed.mend(spy.push, spy.pop, spy.ask)
                    # What mending pushes is not counted.
                    mending = Counter(timed.log()[len(log):])
                    bounds = {number: bound + mending["push", number] for number, bound in bounds.items()}
                    continue
                KIND.apply(timed, operation)
                model.advance(operation)
                counts = self.counts(timed)
                for number, bound in bounds.items():
                    self.assertLessEqual(counts["push", number], bound)
                    if number not in model.present:
                        self.assertEqual(counts["push", number], bound)

    def test_a_member_is_in_the_stack_by_its_pieces(self):
        source = random.Random(4)
        spy, timed = empty_at(0)
        spans = {}
        for _ in range(400):
            clock = timed.clock()
            if source.random() < 0.3:
                until = clock + source.randint(1, 60)
                spans[timed.add("x", until=until)] = [(clock, 1), *dyadic(clock + 1, until)]
            ending = [number for number in timed.stack()
                      if any(first + size == clock + 1 for first, size in spans[number])]
            # Those whose piece ends are the last ones of the stack, and are popped.
            self.assertEqual(timed.stack()[len(timed.stack()) - len(ending):], ending)
            popped = [number for action, number in timed.plan_tick() if action == "pop"]
            self.assertEqual(popped, ending[::-1])
            timed.tick()


class WrongUntil(unittest.TestCase):
    def check_wrong(self, spy, timed, until):
        """The addition is refused and changes nothing."""
        before = (timed.log(), timed.stack(), timed.numbers(), timed.clock(), timed.plan_add(), timed.plan_tick())
        calls = len(spy.calls)
        with self.assertRaises(BadNumber):
            timed.add("x", until=until)
        self.assertIs(timed.torn, False)
        after = (timed.log(), timed.stack(), timed.numbers(), timed.clock(), timed.plan_add(), timed.plan_tick())
        self.assertEqual((after, len(spy.calls)), (before, calls))

    def test_what_is_no_integer(self):
        for clock in (0, 3):
            spy, timed = empty_at(clock)
            timed.add("a", until=10)
            for until in [*NO_INTEGERS, timed, spy.push, 10.0, "10", (10,)]:
                self.check_wrong(spy, timed, until)
            self.assertEqual(timed.add("b", until=10), 1)

    def test_what_is_not_greater_than_the_clock(self):
        for clock in (0, 1, 2, 7, 8):
            spy, timed = empty_at(clock)
            for until in [clock, clock - 1, 0, -1, -10 ** 29, -clock - 1]:
                self.check_wrong(spy, timed, until)
            self.assertEqual(timed.add("a", until=clock + 1), 0)
            self.assertEqual(timed.tick(), [0])
            self.check_wrong(spy, timed, clock + 1)

    def test_what_is_greater_than_the_last_clock(self):
        for clock in (0, 5):
            spy, timed = empty_at(clock)
            for until in (Timed.LAST + 1, 10 ** 9 + 1, 10 ** 10, 10 ** 30):
                self.check_wrong(spy, timed, until)
            self.assertEqual(timed.add("a", until=Timed.LAST), 0)
            self.assertEqual(timed.add("b", until=Timed.LAST - 1), 1)

    def test_the_last_clock(self):
        spy, timed = empty_at(0)
        self.assertEqual((Timed.LAST, timed.LAST), (10 ** 9, 10 ** 9))
        self.assertIs(type(Timed.LAST), int)
        timed.add("a", until=Timed.LAST)
        timed.add("b", until=10 ** 9)
        schedule = {first + size for first, size in dyadic(1, 10 ** 9)} | {1}
        for clock in range(1, 200):
            moved = [("pop", 1), ("pop", 0), ("push", 0), ("push", 1)] if clock in schedule else []
            self.assertEqual((timed.plan_tick(), timed.tick()), (moved, []))

    def test_an_integer_of_a_class_of_its_own(self):
        class Own(int):
            pass

        spy, timed = empty_at(0)
        self.assertEqual([timed.add("x", until=Own(until)) for until in (2, 1)], [0, 1])
        self.assertEqual([timed.tick(), timed.tick()], [[1], [0]])
        self.check_wrong(spy, timed, Own(2))

    def test_it_is_a_value_error(self):
        self.assertTrue(issubclass(BadNumber, OnceError) and issubclass(OnceError, ValueError))
        with self.assertRaises(ValueError):
            empty_at(0)[1].add("x", until=0)

    def test_until_is_asked_for_by_name(self):
        spy, timed = empty_at(0)
        with self.assertRaises(TypeError):
            timed.add("a", 3)
        with self.assertRaises(TypeError):
            timed.add("a")
        self.assertEqual(len(timed), 0)
        self.assertEqual(timed.add(until=3, member="a"), 0)
        self.assertEqual(timed.query(question="q"), spy.answer(["a"], "q"))


class FailedTicks(unittest.TestCase):
    def test_a_tick_that_failed_did_not_happen(self):
        for later in range(5):
            spy, timed = empty_at(3)
            for until in (5, 4, 9):
                timed.add(f"until {until}", until=until)
            planned = timed.plan_tick()
            self.assertEqual(len(planned), 5)
            spy.fail(later, Failure())
            with self.assertRaises(Failure):
                timed.tick()
            self.assertEqual((len(timed), timed.stack()), (3, [0, 1, 2]))
            spy = OuterSpy()
            timed.mend(spy.push, spy.pop, spy.ask)
            self.assertEqual((timed.clock(), timed.numbers(), timed.plan_tick()), (3, [0, 1, 2], planned))
            with self.assertRaises(BadNumber):
                timed.add("x", until=3)
            self.assertEqual(timed.tick(), [1])
            self.assertEqual((timed.clock(), timed.stack(), spy.inside), (4, [2, 0], ["until 9", "until 5"]))
            self.assertEqual(timed.tick(), [0])

    def test_many_failures_in_a_row(self):
        spy, timed = empty_at(0)
        timed.add("a", until=2)
        for _ in range(4):
            spy.fail(1, Failure())
            with self.assertRaises(Failure):
                timed.tick()
            spy = OuterSpy()
            timed.mend(spy.push, spy.pop, spy.ask)
            self.assertEqual((timed.clock(), timed.numbers()), (0, [0]))
        self.assertEqual([timed.tick(), timed.tick()], [[], [0]])

    def test_a_tick_that_calls_nothing_cannot_fail(self):
        spy, timed = empty_at(0)
        timed.add("a", until=16)
        for _ in range(8):
            timed.tick()
        spy.fail(0, Failure())
        for clock in range(9, 16):
            self.assertEqual((timed.tick(), timed.clock()), ([], clock))
        with self.assertRaises(NotTorn):
            timed.mend(None, None, None)


if __name__ == "__main__":
    unittest.main()
