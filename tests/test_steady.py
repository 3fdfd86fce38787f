"""Point 7: how a Steady merges its blocks, what each addition calls at most, and what errors leave."""

import random
import unittest

from oncebuilt.steady import Steady
from tests.helpers import Failure, Spy, expected_answer
from tests.models import SteadyModel


def of_many(spy, many, zero="zero"):
    steady = Steady(spy.begin, spy.put, spy.seal, spy.ask, spy.join, zero=zero)
    for number in range(many):
        steady.add(number)
    return steady


def floor_log(number):
    """The greatest exponent of a power of two that is at most a positive integer."""
    found = 0
    while 2 ** (found + 1) <= number:
        found += 1
    return found


class Adding(unittest.TestCase):
    def test_the_first_additions(self):
        spy = Spy()
        steady = of_many(spy, 0)
        new = [[("begin", 0), ("put", 0, number), ("seal", 0)] for number in range(12)]
        # Worked out by hand from the document.
        expected = [
            (new[0], [[(0,)]]),
            (new[1], [[(0,), (1,)]]),
            ([("begin", 1), ("put", 1, 0)] + new[2], [[(0,), (1,), (2,)]]),
            ([("put", 1, 1), ("seal", 1)] + new[3], [[(2,), (3,)], [(0, 1)]]),
            ([("begin", 1), ("put", 1, 2)] + new[4], [[(2,), (3,), (4,)], [(0, 1)]]),
            ([("put", 1, 3), ("seal", 1)] + new[5], [[(4,), (5,)], [(0, 1), (2, 3)]]),
            ([("begin", 2), ("put", 2, 0), ("begin", 1), ("put", 1, 4)] + new[6],
             [[(4,), (5,), (6,)], [(0, 1), (2, 3)]]),
            ([("put", 2, 1), ("put", 1, 5), ("seal", 1)] + new[7], [[(6,), (7,)], [(0, 1), (2, 3), (4, 5)]]),
            ([("put", 2, 2), ("begin", 1), ("put", 1, 6)] + new[8], [[(6,), (7,), (8,)], [(0, 1), (2, 3), (4, 5)]]),
            ([("put", 2, 3), ("seal", 2), ("put", 1, 7), ("seal", 1)] + new[9],
             [[(8,), (9,)], [(4, 5), (6, 7)], [(0, 1, 2, 3)]]),
            ([("begin", 2), ("put", 2, 4), ("begin", 1), ("put", 1, 8)] + new[10],
             [[(8,), (9,), (10,)], [(4, 5), (6, 7)], [(0, 1, 2, 3)]]),
            ([("put", 2, 5), ("put", 1, 9), ("seal", 1)] + new[11],
             [[(10,), (11,)], [(4, 5), (6, 7), (8, 9)], [(0, 1, 2, 3)]]),
        ]
        for number, (entries, levels) in enumerate(expected):
            log = steady.log()
            self.assertEqual(steady.plan_add(), entries)
            self.assertEqual(steady.add(number), number)
            self.assertEqual(steady.log(), log + entries)
            self.assertEqual(steady.levels(), levels)

    def test_each_addition_calls_as_planned(self):
        spy, model = Spy(), SteadyModel()
        steady = of_many(spy, 0)
        log = []
        for number in range(1000):
            operation = ("add", number)
            planned = model.plan(operation)
            self.assertEqual(steady.plan_add(), planned)
            self.assertEqual(steady.add(number), number)
            model.advance(operation)
            log += planned
            self.assertEqual(steady.levels(), model.levels)
            self.assertEqual(steady.plan_query(), model.plan(("query", "q")))
        self.assertEqual(steady.log(), log)
        self.assertEqual(spy.names(), [entry[0] for entry in log])
        self.assertEqual(steady.query("q"), expected_answer(range(1000), "q"))

    def test_no_addition_calls_many(self):
        spy = Spy()
        steady = of_many(spy, 0)
        for many in range(1, 1001):
            before = len(steady.log())
            steady.add(many)
            names = [entry[0] for entry in steady.log()[before:]]
            most = 1 if many == 1 else 1 + floor_log(many - 1)
            for name in ("begin", "put", "seal"):
                self.assertLessEqual(names.count(name), most)

    def test_the_most_calls_occur(self):
        # The bound is no looser than it has to be: after 8 members three levels are worked on at once.
        spy = Spy()
        steady = of_many(spy, 0)
        found = {}
        for many in range(1, 70):
            before = len(steady.log())
            steady.add(many)
            names = [entry[0] for entry in steady.log()[before:]]
            found[many] = names.count("put")
        self.assertEqual([found[many] for many in range(1, 13)], [1, 1, 2, 2, 2, 2, 3, 3, 3, 3, 3, 3])

    def test_levels_hold_at_most_three_blocks_of_their_size(self):
        spy = Spy()
        steady = of_many(spy, 0)
        for many in range(1, 600):
            steady.add(many)
            levels = steady.levels()
            self.assertGreater(len(levels[-1]), 0)
            for level, blocks in enumerate(levels):
                self.assertIs(type(blocks), list)
                self.assertLessEqual(len(blocks), 3)
                for numbers in blocks:
                    self.assertIs(type(numbers), tuple)
                    self.assertEqual(len(numbers), 2 ** level)
            oldest_first = [number for blocks in reversed(levels) for numbers in blocks for number in numbers]
            self.assertEqual(oldest_first, list(range(many)))

    def test_each_member_is_put_once_for_each_level(self):
        spy = Spy()
        steady = of_many(spy, 300)
        puts = [entry for entry in steady.log() if entry[0] == "put"]
        self.assertEqual(len(set(puts)), len(puts))
        begins = [entry[1] for entry in steady.log() if entry[0] == "begin"]
        seals = [entry[1] for entry in steady.log() if entry[0] == "seal"]
        for level in range(9):
            self.assertIn(begins.count(level) - seals.count(level), (0, 1))

    def test_drafts_and_members_that_are_passed(self):
        spy = Spy()
        steady = Steady(spy.begin, spy.put, spy.seal, spy.ask, spy.join)
        for member in "abcd":
            steady.add(member)
        self.assertEqual(spy.calls, [
            ("begin", ()), ("put", ((), "a")), ("seal", (("a",),)),
            ("begin", ()), ("put", ((), "b")), ("seal", (("b",),)),
            ("begin", ()), ("put", ((), "a")), ("begin", ()), ("put", ((), "c")), ("seal", (("c",),)),
            ("put", (("a",), "b")), ("seal", (("a", "b"),)), ("begin", ()), ("put", ((), "d")), ("seal", (("d",),)),
        ])

    def test_each_draft_is_the_one_that_was_begun(self):
        drafts, sealed = [], []

        def begin():
            drafts.append([])
            return drafts[-1]

        def seal(draft):
            sealed.append(draft)
            return list(draft)

        steady = Steady(begin, lambda draft, member: draft.append(member), seal, lambda block, question: block,
                        lambda one, other: one + other)
        for number in range(200):
            steady.add(number)
        self.assertEqual(steady.query(None), list(range(200)))
        self.assertEqual(len(set(map(id, sealed))), len(sealed))
        self.assertTrue(all(any(draft is one for one in drafts) for draft in sealed))
        for draft in sealed:
            self.assertEqual(draft, list(range(draft[0], draft[0] + len(draft))))

    def test_no_levels(self):
        self.assertEqual(of_many(Spy(), 0).levels(), [])

    def test_levels_are_new_lists_throughout(self):
        spy = Spy()
        steady = of_many(spy, 9)
        levels = steady.levels()
        kept = [list(blocks) for blocks in levels]
        for blocks in levels:
            blocks.append("spoiled")
            blocks.reverse()
        self.assertEqual(steady.levels(), kept)
        levels = steady.levels()
        of_then = [list(blocks) for blocks in levels]
        for number in range(9, 20):
            steady.add(number)
        self.assertEqual(levels, of_then)
        self.assertEqual(steady.query("q"), expected_answer(range(20), "q"))


class Querying(unittest.TestCase):
    def test_blocks_are_asked_the_greatest_level_first(self):
        spy = Spy()
        steady = of_many(spy, 10)
        self.assertEqual(steady.levels(), [[(8,), (9,)], [(4, 5), (6, 7)], [(0, 1, 2, 3)]])
        expected = [
            ("ask", (0, 1, 2, 3)), ("ask", (4, 5)), ("join", 4, 2), ("ask", (6, 7)), ("join", 6, 2),
            ("ask", (8,)), ("join", 8, 1), ("ask", (9,)), ("join", 9, 1),
        ]
        self.assertEqual(steady.plan_query(), expected)
        log = steady.log()
        self.assertEqual(steady.query("q"), expected_answer(range(10), "q"))
        self.assertEqual(steady.log(), log + expected)

    def test_at_most_three_questions_for_each_level(self):
        spy = Spy()
        steady = of_many(spy, 0)
        for many in range(1, 400):
            steady.add(many)
            asked = [entry for entry in steady.plan_query() if entry[0] == "ask"]
            for size in {len(numbers) for _, numbers in asked}:
                self.assertLessEqual([len(numbers) for _, numbers in asked].count(size), 3)

    def test_a_question_changes_no_merge(self):
        for many in range(40):
            spy = Spy()
            steady = of_many(spy, many)
            before = (steady.levels(), steady.plan_add())
            steady.query("q")
            self.assertEqual((steady.levels(), steady.plan_add()), before)

    def test_other_structures(self):
        source = random.Random(6)
        members = [source.randint(-50, 50) for _ in range(150)]
        collections = [
            # A sum, the least member, the members as a text, and the members that are in order already.
            (Steady(lambda: [0], lambda draft, member: draft.append(draft.pop() + member), lambda draft: draft[0],
                    lambda block, factor: block * factor, lambda one, other: one + other),
             lambda present: sum(present) * 3),
            (Steady(lambda: [], lambda draft, member: draft.append(member), min,
                    lambda block, bound: max(block, bound), min),
             lambda present: max(min(present), 3)),
            (Steady(lambda: [], lambda draft, member: draft.append(str(member)), ",".join,
                    lambda block, question: block + ",", lambda one, other: one + other),
             lambda present: "".join([f"{member}," for member in present])),
            (Steady(lambda: [], lambda draft, member: draft.append(member), sorted,
                    lambda block, least: [member for member in block if member >= least],
                    lambda one, other: sorted(one + other)),
             lambda present: sorted(member for member in present if member >= 3)),
        ]
        for steady, expected in collections:
            for many, member in enumerate(members, 1):
                self.assertEqual(steady.add(member), many - 1)
                if many % 7 == 0 or many < 20:
                    self.assertEqual(steady.query(3), expected(members[:many]))


class WhenACallableFails(unittest.TestCase):
    def fail(self, steady, spy, later):
        spy.fail(later, Failure())
        with self.assertRaises(Failure):
            steady.add("lost")
        spy.fail_at = None

    def test_work_that_is_done_stays_done(self):
        spy = Spy()
        steady = of_many(spy, 9)
        self.assertEqual(steady.plan_add(), [
            ("put", 2, 3), ("seal", 2), ("put", 1, 7), ("seal", 1), ("begin", 0), ("put", 0, 9), ("seal", 0),
        ])
        self.fail(steady, spy, 0)
        self.assertEqual(steady.plan_add()[0], ("put", 2, 3))
        self.fail(steady, spy, 1)
        # The draft is full, so only sealing it is left.
        self.assertEqual(steady.plan_add(), [
            ("seal", 2), ("put", 1, 7), ("seal", 1), ("begin", 0), ("put", 0, 9), ("seal", 0),
        ])
        self.assertEqual(steady.levels(), [[(6,), (7,), (8,)], [(0, 1), (2, 3), (4, 5)]])
        self.fail(steady, spy, 0)
        self.fail(steady, spy, 1)
        self.assertEqual(steady.plan_add(), [
            ("put", 1, 7), ("seal", 1), ("begin", 0), ("put", 0, 9), ("seal", 0),
        ])
        self.assertEqual(steady.levels(), [[(6,), (7,), (8,)], [(4, 5)], [(0, 1, 2, 3)]])
        self.fail(steady, spy, 4)
        # The merges were worked on, but the new member was not added, and its draft is dropped.
        self.assertEqual(steady.levels(), [[(8,)], [(4, 5), (6, 7)], [(0, 1, 2, 3)]])
        self.assertEqual(steady.plan_add(), [
            ("begin", 2), ("put", 2, 4), ("begin", 0), ("put", 0, 9), ("seal", 0),
        ])
        self.assertEqual(steady.log()[-5:], [
            ("seal", 2), ("put", 1, 7), ("seal", 1), ("begin", 0), ("put", 0, 9),
        ])
        self.assertEqual(len(steady), 9)
        self.assertEqual(steady.query("q"), expected_answer(range(9), "q"))
        self.assertEqual(steady.add(9), 9)
        self.assertEqual(steady.query("q"), expected_answer(range(10), "q"))

    def test_the_draft_of_the_new_member_is_dropped(self):
        for later in range(3):
            spy = Spy()
            steady = of_many(spy, 0)
            for _ in range(3):
                self.fail(steady, spy, later)
                self.assertEqual((steady.levels(), len(steady)), ([], 0))
                self.assertEqual(steady.plan_add(), [("begin", 0), ("put", 0, 0), ("seal", 0)])
            self.assertEqual(steady.query("q"), "zero")
            self.assertEqual(steady.add("a"), 0)
            self.assertEqual(steady.query("q"), (("q", "a"),))
            put = [values for name, values in spy.calls if name == "put"]
            self.assertEqual(put[-1], ((), "a"))

    def test_a_begun_draft_stays(self):
        spy = Spy()
        steady = of_many(spy, 2)
        self.assertEqual(steady.plan_add()[:2], [("begin", 1), ("put", 1, 0)])
        self.fail(steady, spy, 0)
        self.assertEqual(steady.plan_add()[:2], [("begin", 1), ("put", 1, 0)])
        self.fail(steady, spy, 1)
        self.assertEqual(steady.plan_add(), [("put", 1, 0), ("begin", 0), ("put", 0, 2), ("seal", 0)])
        self.fail(steady, spy, 1)
        self.assertEqual(steady.plan_add(), [("put", 1, 1), ("seal", 1), ("begin", 0), ("put", 0, 2), ("seal", 0)])
        self.fail(steady, spy, 1)
        self.assertEqual(steady.plan_add(), [("seal", 1), ("begin", 0), ("put", 0, 2), ("seal", 0)])
        self.fail(steady, spy, 1)
        self.assertEqual(steady.levels(), [[], [(0, 1)]])
        self.assertEqual(steady.plan_add(), [("begin", 0), ("put", 0, 2), ("seal", 0)])
        self.assertEqual(steady.query("q"), expected_answer(range(2), "q"))
        self.assertEqual(steady.add("c"), 2)
        self.assertEqual(steady.levels(), [[(2,)], [(0, 1)]])

    def test_a_draft_that_is_none_or_false_is_begun_once(self):
        for draft in (None, False, 0, (), []):
            begun = []

            def begin():
                begun.append(draft)
                return draft

            steady = Steady(begin, lambda *values: None, lambda draft: draft, lambda *values: 0, lambda *values: 0)
            model = SteadyModel()
            for number in range(40):
                steady.add(number)
                model.advance(("add", number))
            self.assertEqual(steady.levels(), model.levels)
            self.assertEqual(len(begun), [entry[0] for entry in steady.log()].count("begin"))

    def test_levels_stay_small_whatever_fails(self):
        for seed in range(60):
            source = random.Random(seed)
            spy, model = Spy(), SteadyModel()
            steady = of_many(spy, 0)
            chance = source.choice([0.1, 0.4, 0.8])
            for _ in range(300):
                operation = ("add", len(steady))
                planned, log = model.plan(operation), len(steady.log())
                self.assertEqual(steady.plan_add(), planned)
                if source.random() < chance:
                    later = source.randrange(len(planned))
                    self.fail(steady, spy, later)
                    model.advance(operation, later)
                    self.assertEqual(steady.log()[log:], planned[:later])
                else:
                    steady.add(len(steady))
                    model.advance(operation)
                    self.assertEqual(steady.log()[log:], planned)
                    many = len(steady)
                    most = 1 if many == 1 else 1 + floor_log(many - 1)
                    names = [entry[0] for entry in planned]
                    self.assertLessEqual(max(names.count(name) for name in ("begin", "put", "seal")), most)
                self.assertEqual(steady.levels(), model.levels)
                self.assertLessEqual(max([len(blocks) for blocks in steady.levels()], default=0), 3)
            self.assertEqual(steady.query("q"), expected_answer(range(len(steady)), "q") or "zero")


class Arguments(unittest.TestCase):
    def test_by_name(self):
        spy = Spy()
        steady = Steady(join=spy.join, ask=spy.ask, seal=spy.seal, put=spy.put, begin=spy.begin, zero="none")
        self.assertEqual(steady.query(question="q"), "none")
        self.assertEqual(steady.add(member="a"), 0)
        self.assertEqual(steady.query(question="q"), (("q", "a"),))

    def test_zero_by_name_only_and_none_by_default(self):
        spy = Spy()
        with self.assertRaises(TypeError):
            Steady(spy.begin, spy.put, spy.seal, spy.ask, spy.join, 0)
        self.assertIsNone(Steady(spy.begin, spy.put, spy.seal, spy.ask, spy.join).query("q"))

    def test_callables_get_their_arguments_by_position(self):
        def begin():
            return []

        def put(a, b, /):
            a.append(b)

        def seal(a, /):
            return a

        def ask(a, b, /):
            return list(a)

        def join(a, b, /):
            return a + b

        steady = Steady(begin, put, seal, ask, join)
        for number in range(9):
            steady.add(number)
        self.assertEqual(steady.query(None), list(range(9)))


if __name__ == "__main__":
    unittest.main()
