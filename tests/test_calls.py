"""Point 3: the log, the plans, and what holds while a callable runs or when it raises an error."""

import unittest

from oncebuilt.blocks import Blocks, Version
from oncebuilt.errors import Busy
from tests.helpers import ERRORS, Failure, Model, Spy, errors_of, every_number, expected_answer, readings


def of_many(spy, many):
    return Blocks.of(list(range(many)), spy.build, spy.ask, spy.join, zero="zero")


def refused_calls(blocks):
    """The calls that are refused while a callable of the collection runs."""
    calls = [
        lambda: blocks.query("q"),
        lambda: blocks.query(None),
        lambda: blocks.query(question=blocks),
        lambda: blocks.plan_query(),
    ]
    if isinstance(blocks, Version):
        return calls
    return calls + [
        lambda: blocks.add("x"),
        lambda: blocks.add(None),
        lambda: blocks.add(member=Failure),
        lambda: blocks.add_all(),
        lambda: blocks.add_all("x"),
        lambda: blocks.add_all("x", "y"),
        lambda: blocks.sizes(),
        lambda: blocks.plan_add(),
        lambda: blocks.version(),
        lambda: blocks.branch(),
    ]


def whole_state(blocks):
    """All that a call must leave as it was if it raises an error, but for the log."""
    return (readings(blocks), blocks.sizes(), blocks.plan_add(), blocks.plan_query())


class WhileACallableRuns(unittest.TestCase):
    def watched(self, blocks, spy, action):
        """Do the action; return its result, what was refused and read in each call, and its errors."""
        seen = []

        def hook(name, values):
            # What should be refused would otherwise run this hook again, and so on.
            spy.hook = None
            refused = errors_of(refused_calls(blocks))
            seen.append((name, refused, readings(blocks), blocks.log()))
            spy.hook = hook

        spy.hook = hook
        try:
            result = action()
        finally:
            spy.hook = None
        return result, seen

    def check(self, blocks, spy, action, planned, expected):
        before, log = readings(blocks), blocks.log()
        result, seen = self.watched(blocks, spy, action)
        self.assertEqual(result, expected)
        self.assertEqual([name for name, *_ in seen], [entry[0] for entry in planned])
        for at, (name, refused, read, log_then) in enumerate(seen):
            self.assertEqual(refused, [Busy] * len(refused_calls(blocks)), name)
            self.assertEqual(read, before)
            self.assertEqual(log_then, log + planned[:at])
        self.assertEqual(blocks.log(), log + planned)
        self.assertEqual(errors_of(refused_calls(blocks)[-4:]), [None] * 4)

    def test_add(self):
        for many in range(18):
            spy = Spy()
            blocks = of_many(spy, many)
            self.check(blocks, spy, lambda: blocks.add("new"), Model(many).plan_add(), many)
            self.assertEqual(blocks.members(), [*range(many), "new"])

    def test_query(self):
        for many in range(1, 18):
            spy = Spy()
            blocks = of_many(spy, many)
            answer = expected_answer(range(many), "q")
            self.check(blocks, spy, lambda: blocks.query("q"), Model(many).plan_query(), answer)

    def test_query_of_a_version(self):
        for many in range(1, 18):
            spy = Spy()
            version = of_many(spy, many).version()
            answer = expected_answer(range(many), "q")
            self.check(version, spy, lambda: version.query("q"), Model(many).plan_query(), answer)

    def test_query_and_add_of_a_branch(self):
        for many in range(1, 10):
            spy = Spy()
            branch = of_many(spy, many).branch()
            answer = expected_answer(range(many), "q")
            self.check(branch, spy, lambda: branch.query("q"), Model(many).plan_query(), answer)
            self.check(branch, spy, lambda: branch.add("new"), Model(many).plan_add(), many)

    def test_add_all_shows_the_members_before_the_running_addition(self):
        for many in range(9):
            spy, model = Spy(), Model(many)
            blocks = of_many(spy, many)
            log = blocks.log()
            new = ["a", "b", "c", "d", "e"]
            result, seen = self.watched(blocks, spy, lambda: blocks.add_all(*new))
            self.assertEqual(result, list(range(many, many + 5)))
            self.assertEqual(len(seen), 5)
            for at, (name, refused, read, log_then) in enumerate(seen):
                present = [*range(many), *new[:at]]
                self.assertEqual(refused, [Busy] * len(refused))
                self.assertEqual(read[:3], (present, list(enumerate(present)), many + at))
                self.assertEqual(read[3], f"Blocks({many + at})")
                self.assertEqual(read[4], many + at > 0)
                self.assertEqual(log_then, log)
                log += model.plan_add()
                model.add()

    def test_pairs_that_were_begun_or_made_before(self):
        spy = Spy()
        blocks = of_many(spy, 3)
        begun, early, late = blocks.pairs(), blocks.pairs(), blocks.pairs()
        next(begun)
        found = []

        def hook(name, values):
            found.append((list(begun), list(early), next(blocks.pairs())))

        spy.hook = hook
        blocks.add("new")
        spy.hook = None
        self.assertEqual(found, [([(1, 1), (2, 2)], [(0, 0), (1, 1), (2, 2)], (0, 0))])
        self.assertEqual(list(late), [(0, 0), (1, 1), (2, 2), (3, "new")])

    def test_pairs_that_are_made_while_a_callable_runs(self):
        spy = Spy()
        blocks = of_many(spy, 2)
        made = []

        def hook(name, values):
            made.extend([blocks.pairs(), blocks.pairs()])
            next(made[0])

        spy.hook = hook
        blocks.add("new")
        spy.hook = None
        self.assertEqual(list(made[0]), [(1, 1)])
        self.assertEqual(list(made[1]), [(0, 0), (1, 1), (2, "new")])

    def test_lists_of_that_time_can_be_changed(self):
        spy = Spy()
        blocks = of_many(spy, 2)

        def hook(name, values):
            blocks.members().append("spoiled")
            blocks.log().append("spoiled")
            blocks.log().clear()

        spy.hook = hook
        blocks.add("new")
        self.assertEqual(blocks.members(), [0, 1, "new"])
        self.assertEqual(blocks.log(), [("build", (0, 1)), ("build", (2,))])

    def test_busy_leaves_a_call_like_any_error(self):
        for many in range(9):
            for at in range(len(Model(many).plan_query())):
                spy = Spy()
                blocks = of_many(spy, many)
                before, log = whole_state(blocks), blocks.log()
                calls = []

                def hook(name, values):
                    calls.append(name)
                    if len(calls) == at + 1:
                        spy.hook = None
                        blocks.add("x")

                spy.hook = hook
                with self.assertRaises(Busy):
                    blocks.query("q")
                spy.hook = None
                self.assertEqual(whole_state(blocks), before)
                self.assertEqual(blocks.log(), log + Model(many).plan_query()[:at])
                self.assertEqual(blocks.add("next"), many)

    def test_a_callable_uses_another_collection(self):
        spy, other_spy = Spy(), Spy()
        blocks, other = of_many(spy, 3), of_many(other_spy, 1)
        alike = of_many(spy, 1)
        found = []

        def hook(name, values):
            spy.hook = None
            found.append((other.add(name), other.query("q"), alike.add(name), alike.query("q"), alike.sizes()))
            found.append(errors_of([lambda: blocks.add("x")]))
            spy.hook = hook

        spy.hook = hook
        self.assertEqual(blocks.query("q"), expected_answer(range(3), "q"))
        self.assertEqual(blocks.add("new"), 3)
        spy.hook = None
        names = ["ask", "ask", "join", "build"]
        self.assertEqual(other.members(), [0, *names])
        self.assertEqual(alike.members(), [0, *names])
        self.assertEqual(found[1::2], [[Busy]] * 4)
        for at, (number, answer, number_alike, answer_alike, sizes) in enumerate(found[0::2]):
            self.assertEqual((number, number_alike), (at + 1, at + 1))
            self.assertEqual(answer, expected_answer([0, *names[:at + 1]], "q"))
            self.assertEqual(answer_alike, answer)
            self.assertEqual(sizes, Model(at + 2).sizes())
        self.assertEqual(blocks.log(), [
            ("build", (0, 1)), ("build", (2,)), ("ask", (0, 1)), ("ask", (2,)), ("join", 2, 1),
            ("build", (0, 1, 2, 3)),
        ])

    def test_collections_that_use_each_other(self):
        one_spy, other_spy = Spy(), Spy()
        one, other = of_many(one_spy, 1), of_many(other_spy, 1)
        found = []

        def inner(name, values):
            one_spy.hook = other_spy.hook = None
            found.append(errors_of([lambda: one.add("x"), lambda: one.query("q"), lambda: other.add("x")]))

        def outer(name, values):
            found.append(other.query("inner"))
            found.append(errors_of([lambda: one.add("x"), lambda: one.sizes()]))

        one_spy.hook, other_spy.hook = outer, inner
        self.assertEqual(one.query("outer"), (("outer", 0),))
        self.assertEqual(found, [[Busy] * 3, (("inner", 0),), [Busy] * 2])
        self.assertEqual((len(one), len(other)), (1, 1))

    def test_nothing_is_refused_after_a_call(self):
        spy = Spy()
        blocks = of_many(spy, 3)
        for action in (lambda: blocks.add("x"), lambda: blocks.query("q"), lambda: blocks.add_all("y", "z")):
            action()
            self.assertEqual(errors_of(refused_calls(blocks)), [None] * len(refused_calls(blocks)))


class WhenACallableFails(unittest.TestCase):
    def check_error(self, many, action, later, error):
        spy = Spy()
        blocks = of_many(spy, many)
        before = whole_state(blocks)
        spy.fail(later, error)
        with self.assertRaises(type(error)) as caught:
            action(blocks)
        self.assertIs(caught.exception, error)
        self.assertEqual(whole_state(blocks), before)
        self.assertEqual(blocks.add("next"), many)

    def test_every_error_leaves_the_call_itself(self):
        for error in ERRORS:
            for many in (0, 1, 3):
                self.check_error(many, lambda blocks: blocks.add("x"), 0, error)
                self.check_error(many, lambda blocks: blocks.add_all("x"), 0, error)
            self.check_error(1, lambda blocks: blocks.query("q"), 0, error)
            for later in range(3):
                self.check_error(3, lambda blocks: blocks.query("q"), later, error)

    def test_add(self):
        for many in every_number(70):
            spy = Spy()
            blocks = of_many(spy, many)
            before, log = whole_state(blocks), blocks.log()
            for times in range(3):
                calls = len(spy.calls)
                spy.fail(0, Failure())
                with self.assertRaises(Failure):
                    blocks.add("lost")
                self.assertEqual(len(spy.calls), calls + 1)
                self.assertEqual(whole_state(blocks), before)
                self.assertEqual(blocks.log(), log)
            self.assertEqual(blocks.query("q"), expected_answer(range(many), "q") or "zero")
            log += Model(many).plan_query()
            self.assertEqual(blocks.add("new"), many)
            self.assertEqual(blocks.log(), log + Model(many).plan_add())
            self.assertEqual(blocks.query("q"), expected_answer([*range(many), "new"], "q"))

    def test_add_all_keeps_the_earlier_ones(self):
        new = ["a", "b", "c", "d", "e"]
        for many in range(9):
            for later in range(len(new)):
                spy, model = Spy(), Model(many)
                blocks = of_many(spy, many)
                log = blocks.log()
                spy.fail(later, Failure())
                with self.assertRaises(Failure):
                    blocks.add_all(*new)
                for _ in range(later):
                    log += model.plan_add()
                    model.add()
                self.assertEqual(blocks.log(), log)
                self.assertEqual(blocks.members(), [*range(many), *new[:later]])
                self.assertEqual(blocks.sizes(), model.sizes())
                self.assertEqual(blocks.plan_add(), model.plan_add())
                answer = expected_answer([*range(many), *new[:later]], "q")
                self.assertEqual(blocks.query("q"), answer or "zero")
                self.assertEqual(blocks.add_all("next", "last"), [many + later, many + later + 1])

    def test_query_at_each_call(self):
        for many in every_number(40):
            planned = Model(many).plan_query()
            for later in range(len(planned)):
                spy = Spy()
                blocks = of_many(spy, many)
                before, log = whole_state(blocks), blocks.log()
                calls = len(spy.calls)
                spy.fail(later, Failure())
                with self.assertRaises(Failure):
                    blocks.query("q")
                self.assertEqual(len(spy.calls), calls + later + 1)
                self.assertEqual(blocks.log(), log + planned[:later])
                self.assertEqual(whole_state(blocks), before)
                self.assertEqual(blocks.query("q"), expected_answer(range(many), "q"))
                self.assertEqual(blocks.log(), log + planned[:later] + planned)

    def test_query_of_a_version_at_each_call(self):
        for many in range(1, 16):
            planned = Model(many).plan_query()
            for later in range(len(planned)):
                spy = Spy()
                version = of_many(spy, many).version()
                before = readings(version)
                error = Failure()
                spy.fail(later, error)
                with self.assertRaises(Failure) as caught:
                    version.query("q")
                self.assertIs(caught.exception, error)
                self.assertEqual(version.log(), planned[:later])
                self.assertEqual(readings(version), before)
                self.assertEqual(version.query("q"), expected_answer(range(many), "q"))
                self.assertEqual(version.log(), planned[:later] + planned)

    def test_of_at_each_build(self):
        for many in range(1, 32):
            for later in range(len(Model(many).rows)):
                spy, members = Spy(), list(range(many))
                error = Failure()
                spy.fail(later, error)
                with self.assertRaises(Failure) as caught:
                    Blocks.of(members, spy.build, spy.ask, spy.join)
                self.assertIs(caught.exception, error)
                self.assertEqual(len(spy.calls), later + 1)
                self.assertEqual(members, list(range(many)))
                again = Blocks.of(members, spy.build, spy.ask, spy.join)
                self.assertEqual(again.members(), members)
                self.assertEqual(len(again.log()), len(Model(many).rows))

    def test_reading_after_an_error(self):
        spy = Spy()
        blocks = of_many(spy, 5)
        spy.fail(0, Failure())
        with self.assertRaises(Failure):
            blocks.add("lost")
        self.assertEqual(errors_of(refused_calls(blocks)), [None] * len(refused_calls(blocks)))

    def test_an_error_in_another_collection_ends_nothing_here(self):
        spy, other_spy = Spy(), Spy()
        blocks, other = of_many(spy, 3), of_many(other_spy, 3)
        found = []

        def hook(name, values):
            spy.hook = None
            other_spy.fail(0, Failure())
            try:
                other.add("lost")
            except Failure:
                found.append(errors_of(refused_calls(blocks)))
            spy.hook = hook

        spy.hook = hook
        blocks.query("q")
        self.assertEqual(found, [[Busy] * len(refused_calls(blocks))] * 3)
        self.assertEqual(other.members(), [0, 1, 2])

    def test_many_errors_in_one_history(self):
        for period in (2, 3, 5):
            spy, model = Spy(), Model()
            blocks = Blocks(spy.build, spy.ask, spy.join, zero="zero")
            members, log = [], []
            for step in range(60):
                fails = step % period == 1
                if fails:
                    spy.fail(0, Failure())
                if step % 4 == 3:
                    planned = model.plan_query()
                    if fails and planned:
                        with self.assertRaises(Failure):
                            blocks.query("q")
                    else:
                        self.assertEqual(blocks.query("q"), expected_answer(members, "q") or "zero")
                        log += planned
                elif fails:
                    with self.assertRaises(Failure):
                        blocks.add("lost")
                else:
                    self.assertEqual(blocks.add(step), len(members))
                    log += model.plan_add()
                    model.add()
                    members.append(step)
                spy.fail_at = None
                self.assertEqual((blocks.log(), blocks.members()), (log, members))


if __name__ == "__main__":
    unittest.main()
