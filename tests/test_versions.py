"""Point 9: versions and branches."""

import contextlib
import types
import unittest

from oncebuilt.blocks import Blocks, Version
from oncebuilt.errors import Busy
from oncebuilt.plans import block_sizes
from tests.helpers import Failure, Model, Spy, Untouchable, every_number, expected_answer


def of_many(spy, many, zero="zero"):
    return Blocks.of(list(range(many)), spy.build, spy.ask, spy.join, zero=zero)


def answer_of(many):
    return expected_answer(range(many), "q") or "zero"


class Versions(unittest.TestCase):
    def test_a_version_is_the_collection_at_its_moment(self):
        for many in every_number(270):
            spy = Spy()
            blocks = of_many(spy, many)
            calls, log = len(spy.calls), blocks.log()
            version = blocks.version()
            self.assertIs(type(version), Version)
            self.assertEqual(len(spy.calls), calls)
            self.assertEqual((version.log(), blocks.log()), ([], log))
            for later in range(4):
                self.assertEqual(version.members(), list(range(many)))
                self.assertEqual(list(version.pairs()), list(enumerate(range(many))))
                self.assertEqual((len(version), repr(version)), (many, f"Version({many})"))
                self.assertEqual(bool(version), many > 0)
                self.assertEqual(version.plan_query(), Model(many).plan_query())
                self.assertEqual(version.query("q"), answer_of(many))
                self.assertEqual(version.log(), Model(many).plan_query() * (later + 1))
                blocks.add(f"later {later}")

    def test_all_versions_of_a_growing_collection(self):
        spy = Spy()
        blocks = Blocks(spy.build, spy.ask, spy.join, zero="zero")
        versions = [blocks.version()]
        for number in range(40):
            blocks.add(number)
            versions.append(blocks.version())
        builds = len(spy.calls)
        for many, version in enumerate(versions):
            self.assertEqual((len(version), version.query("q")), (many, answer_of(many)))
            self.assertEqual(version.log(), Model(many).plan_query())
        self.assertEqual(spy.names()[builds:].count("build"), 0)
        self.assertEqual(blocks.log(), [("build", row) for row in [Model(many).grown()[-1] for many in range(40)]])

    def test_the_collection_goes_on_as_if_there_were_no_version(self):
        spy, model = Spy(), Model(7)
        blocks = of_many(spy, 7)
        log = blocks.log()
        for number in range(7, 30):
            version = blocks.version()
            version.query("q")
            log += model.plan_add()
            self.assertEqual(blocks.plan_add(), model.plan_add())
            self.assertEqual(blocks.add(number), number)
            model.add()
            self.assertEqual((blocks.sizes(), blocks.log()), (model.sizes(), log))

    def test_a_version_cannot_change(self):
        spy = Spy()
        version = of_many(spy, 3).version()
        for name in ("add", "add_all", "remove"):
            # It need not have such a method; if it has one, it must not do its work.
            with contextlib.suppress(Exception):
                getattr(version, name)(0)
        self.assertEqual((version.members(), len(version)), ([0, 1, 2], 3))
        self.assertEqual(version.query("q"), answer_of(3))

    def test_it_asks_the_blocks_of_the_collection(self):
        spy = Spy()
        blocks = of_many(spy, 7)
        blocks.query("q")
        made = [values[0] for name, values in spy.calls if name == "ask"]
        for one in (blocks.version(), blocks.branch()):
            del spy.calls[:]
            one.query("q")
            asked = [values[0] for name, values in spy.calls if name == "ask"]
            self.assertEqual(len(asked), 3)
            self.assertTrue(all(block is other for block, other in zip(asked, made)))

    def test_zero(self):
        for zero in (Untouchable(), [], None, 0):
            blocks = of_many(Spy(), 0, zero)
            version, branch = blocks.version(), blocks.branch()
            for one in (version, branch, branch.version(), branch.branch()):
                self.assertIs(one.query("q"), zero)
                self.assertEqual((one.plan_query(), one.log()), ([], []))
        spy = Spy()
        self.assertIsNone(Blocks(spy.build, spy.ask, spy.join).version().query("q"))
        self.assertIsNone(Blocks(spy.build, spy.ask, spy.join).branch().query("q"))

    def test_zero_is_not_joined(self):
        blocks = of_many(Spy(), 3, Untouchable())
        self.assertEqual(blocks.version().query("q"), answer_of(3))
        self.assertEqual(blocks.branch().query("q"), answer_of(3))

    def test_returned_lists_can_be_changed(self):
        for many in (0, 1, 6):
            version = of_many(Spy(), many).version()
            version.query("q")
            for read in (version.members, version.plan_query, version.log):
                found = read()
                self.assertIs(type(found), list)
                kept = list(found)
                found.append("spoiled")
                self.assertEqual(read(), kept)
                read().clear()
                self.assertEqual(read(), kept)
            self.assertEqual(version.query("q"), answer_of(many))

    def test_lists_of_a_version_are_not_those_of_the_collection(self):
        blocks = of_many(Spy(), 3)
        version = blocks.version()
        blocks.members().clear()
        version.members().clear()
        self.assertEqual((blocks.members(), version.members()), ([0, 1, 2], [0, 1, 2]))

    def test_plans_call_nothing(self):
        spy = Spy()
        version = of_many(spy, 7).version()
        calls = len(spy.calls)
        self.assertEqual(version.plan_query(), version.plan_query())
        self.assertEqual((len(spy.calls), version.log()), (calls, []))

    def test_pairs(self):
        blocks = of_many(Spy(), 2)
        version = blocks.version()
        begun = version.pairs()
        self.assertIsInstance(begun, types.GeneratorType)
        blocks.add("later")
        self.assertEqual(next(begun), (0, 0))
        blocks.add("later still")
        self.assertEqual(list(begun), [(1, 1)])
        self.assertTrue(all(type(pair) is tuple for pair in version.pairs()))

    def test_name_and_repr(self):
        version = of_many(Spy(), 13).version()
        self.assertEqual((Version.NAME, version.NAME), ("Version", "Version"))
        self.assertEqual((repr(version), str(version)), ("Version(13)", "Version(13)"))
        self.assertEqual(repr(of_many(Spy(), 0).version()), "Version(0)")

    def test_by_name(self):
        version = of_many(Spy(), 1).version()
        self.assertEqual(version.query(question="q"), answer_of(1))


class Branches(unittest.TestCase):
    def test_a_branch_begins_as_the_collection_is(self):
        for many in every_number(130):
            spy = Spy()
            blocks = of_many(spy, many)
            blocks.query("q")
            calls, log = len(spy.calls), blocks.log()
            branch = blocks.branch()
            self.assertIs(type(branch), Blocks)
            self.assertIsNot(branch, blocks)
            self.assertEqual((len(spy.calls), blocks.log(), branch.log()), (calls, log, []))
            self.assertEqual((len(branch), repr(branch)), (many, f"Blocks({many})"))
            self.assertEqual(branch.members(), list(range(many)))
            self.assertEqual(list(branch.pairs()), list(enumerate(range(many))))
            self.assertEqual(branch.sizes(), block_sizes(many))
            self.assertEqual(branch.plan_add(), Model(many).plan_add())
            self.assertEqual(branch.plan_query(), Model(many).plan_query())
            self.assertEqual(branch.query("q"), answer_of(many))
            self.assertEqual(branch.log(), Model(many).plan_query())
            self.assertEqual(branch.add("new"), many)
            self.assertEqual(branch.log(), Model(many).plan_query() + Model(many).plan_add())
            self.assertEqual((blocks.log(), len(blocks)), (log, many))

    def check(self, blocks, model, members):
        self.assertEqual(blocks.members(), members)
        self.assertEqual(len(blocks), len(members))
        self.assertEqual(blocks.sizes(), model.sizes())
        self.assertEqual(blocks.plan_add(), model.plan_add())
        planned, log = model.plan_query(), blocks.log()
        self.assertEqual(blocks.query("q"), expected_answer(members, "q") or "zero")
        self.assertEqual(blocks.log(), log + planned)

    def test_both_change_independently(self):
        for many in range(18):
            spy = Spy()
            blocks = of_many(spy, many)
            branch = blocks.branch()
            other = branch.branch()
            alike = [blocks, branch, other]
            models = [Model(many), Model(many), Model(many)]
            members = [list(range(many)), list(range(many)), list(range(many))]
            for step in range(20):
                at = (step * step + step // 3) % 3
                self.assertEqual(alike[at].add((at, step)), len(members[at]))
                members[at].append((at, step))
                models[at].add()
                for one, model, present in zip(alike, models, members):
                    self.check(one, model, present)

    def test_add_all_in_a_branch(self):
        blocks = of_many(Spy(), 5)
        branch = blocks.branch()
        self.assertEqual(branch.add_all("a", "b", "c", "d"), [5, 6, 7, 8])
        self.assertEqual(blocks.add_all("x"), [5])
        self.assertEqual(branch.members(), [0, 1, 2, 3, 4, "a", "b", "c", "d"])
        self.assertEqual(blocks.members(), [0, 1, 2, 3, 4, "x"])

    def test_an_error_in_a_branch_stays_there(self):
        spy = Spy()
        blocks = of_many(spy, 3)
        branch = blocks.branch()
        spy.fail(0, Failure())
        with self.assertRaises(Failure):
            branch.add("lost")
        for one in (blocks, branch):
            self.check(one, Model(3), [0, 1, 2])

    def test_versions_of_a_branch(self):
        blocks = of_many(Spy(), 3)
        branch = blocks.branch()
        branch.add("b")
        version, first = branch.version(), blocks.version()
        branch.add("c")
        blocks.add("x")
        self.assertEqual(version.members(), [0, 1, 2, "b"])
        self.assertEqual(version.query("q"), expected_answer([0, 1, 2, "b"], "q"))
        self.assertEqual(first.query("q"), answer_of(3))
        self.assertEqual((version.log()[0], first.log()[0]), (("ask", (0, 1, 2, 3)), ("ask", (0, 1))))


class WhileACallableRuns(unittest.TestCase):
    """A version, a branch and their collection can each be used while a callable of another one runs."""

    def busy(self, call):
        with self.assertRaises(Busy):
            call()

    def use(self, one):
        """Use all of another collection than that whose callable runs."""
        many = len(one)
        self.assertEqual(one.plan_query(), Model(many).plan_query())
        log = one.log()
        answer = expected_answer(one.members(), "q")
        self.assertEqual(one.query("q"), answer)
        self.assertEqual(one.log(), log + Model(many).plan_query())
        if not isinstance(one, Version):
            self.assertEqual(one.add("new"), many)
            self.assertEqual(one.add_all("new", "newer"), [many + 1, many + 2])
            self.assertEqual(one.sizes(), block_sizes(many + 3))
            self.assertEqual(one.plan_add(), Model(many + 3).plan_add())
            self.assertEqual(one.version().query("q"), one.branch().query("q"))

    def refuse(self, one):
        self.busy(lambda: one.query("q"))
        self.busy(lambda: one.plan_query())
        if not isinstance(one, Version):
            self.busy(lambda: one.add("x"))
            self.busy(lambda: one.version())
            self.busy(lambda: one.branch())

    def run_with(self, spy, running, others, action):
        """Do the action of the running one, and use the others in each of its callables."""
        used = []

        def hook(name, values):
            spy.hook = None
            self.refuse(running)
            for one in others:
                self.use(one)
                self.refuse(running)
            used.append(name)
            spy.hook = hook

        spy.hook = hook
        result = action()
        spy.hook = None
        return result, used

    def test_each_one_runs_while_the_others_are_used(self):
        for at in range(4):
            spy = Spy()
            blocks = of_many(spy, 3)
            alike = [blocks, blocks.version(), blocks.branch(), blocks.version()]
            running = alike.pop(at)
            result, used = self.run_with(spy, running, alike, lambda: running.query("q"))
            self.assertEqual((result, used), (answer_of(3), ["ask", "ask", "join"]))
            self.assertEqual((running.members(), running.log()[-3:]), ([0, 1, 2], Model(3).plan_query()))

    def test_an_addition_while_the_others_are_used(self):
        for at in (0, 1):
            spy = Spy()
            blocks = of_many(spy, 5)
            alike = [blocks, blocks.branch(), blocks.version(), blocks.branch()]
            running = alike.pop(at)
            result, used = self.run_with(spy, running, alike, lambda: running.add("x"))
            self.assertEqual((result, used), (5, ["build"]))
            self.assertEqual((running.members(), running.sizes()), ([0, 1, 2, 3, 4, "x"], [4, 2]))
            self.assertEqual(running.log()[-1], ("build", (4, 5)))
            self.assertEqual([len(one) for one in alike], [8, 5, 8])

    def test_an_error_that_passes_through_both(self):
        spy = Spy()
        blocks = of_many(spy, 3)
        version, branch = blocks.version(), blocks.branch()

        def hook(name, values):
            spy.hook = None
            spy.fail(1, Failure())
            branch.query("q")

        spy.hook = hook
        with self.assertRaises(Failure):
            blocks.add("lost")
        spy.fail_at = None
        self.assertEqual((blocks.log(), branch.log()), ([("build", (0, 1)), ("build", (2,))], [("ask", (0, 1))]))
        for one in (blocks, version, branch):
            self.use(one)


if __name__ == "__main__":
    unittest.main()
