"""Points 2, 4 and 6: what a Blocks answers, how it is built, and the calls that this takes."""

import inspect
import random
import types
import unittest

from oncebuilt.blocks import Blocks
from oncebuilt.plans import block_sizes, total_built
from tests.helpers import Block, Model, Spy, Untouchable, every_number, expected_answer, same_objects


def of_many(spy, many, zero=None):
    return Blocks.of(list(range(many)), spy.build, spy.ask, spy.join, zero=zero)


class Adding(unittest.TestCase):
    def test_each_addition_builds_as_planned(self):
        spy, model = Spy(), Model()
        blocks = Blocks(spy.build, spy.ask, spy.join)
        log = []
        for number in range(1100):
            planned = blocks.plan_add()
            self.assertEqual(planned, model.plan_add())
            self.assertEqual(blocks.add(f"m{number}"), number)
            model.add()
            log += planned
            self.assertEqual(blocks.sizes(), model.sizes())
            self.assertEqual(len(blocks), number + 1)
        self.assertEqual(blocks.log(), log)
        self.assertEqual(spy.names(), ["build"] * 1100)

    def test_the_sizes_are_the_block_sizes(self):
        spy = Spy()
        blocks = Blocks(spy.build, spy.ask, spy.join)
        self.assertEqual(blocks.sizes(), [])
        for many in range(1, 200):
            blocks.add(None)
            self.assertEqual(blocks.sizes(), block_sizes(many))

    def test_all_additions_build_total_built_members(self):
        spy = Spy()
        blocks = Blocks(spy.build, spy.ask, spy.join)
        built = 0
        for many in range(1, 300):
            blocks.add(None)
            name, (members,) = spy.calls[-1]
            built += len(members)
            self.assertEqual(built, total_built(many))
            self.assertEqual(len(spy.calls), many)

    def test_build_gets_the_members_in_order(self):
        spy = Spy()
        blocks = Blocks(spy.build, spy.ask, spy.join)
        for letter in "abcdefgh":
            blocks.add(letter)
        self.assertEqual(spy.calls, [
            ("build", (("a",),)), ("build", (("a", "b"),)), ("build", (("c",),)),
            ("build", (("a", "b", "c", "d"),)), ("build", (("e",),)), ("build", (("e", "f"),)),
            ("build", (("g",),)), ("build", (("a", "b", "c", "d", "e", "f", "g", "h"),)),
        ])

    def test_first_entries(self):
        spy = Spy()
        blocks = Blocks(spy.build, spy.ask, spy.join)
        self.assertEqual(blocks.log(), [])
        self.assertEqual(blocks.plan_add(), [("build", (0,))])
        blocks.add("a")
        self.assertEqual(blocks.plan_add(), [("build", (0, 1))])
        blocks.add("b")
        self.assertEqual(blocks.plan_add(), [("build", (2,))])
        self.assertEqual(blocks.log(), [("build", (0,)), ("build", (0, 1))])

    def test_numbers_are_integers(self):
        spy = Spy()
        blocks = Blocks(spy.build, spy.ask, spy.join)
        numbers = [blocks.add("a"), blocks.add("b"), *blocks.add_all("c", "d")]
        self.assertEqual(numbers, [0, 1, 2, 3])
        self.assertTrue(all(type(number) is int for number in numbers))


class AddingAll(unittest.TestCase):
    def test_members_are_added_one_by_one(self):
        for before in range(9):
            for more in range(9):
                spy, model = Spy(), Model()
                blocks = Blocks(spy.build, spy.ask, spy.join)
                log = []
                for number in range(before):
                    blocks.add(number)
                for _ in range(before + more):
                    log += model.plan_add()
                    model.add()
                numbers = blocks.add_all(*range(before, before + more))
                self.assertEqual(numbers, list(range(before, before + more)))
                self.assertEqual(blocks.members(), list(range(before + more)))
                self.assertEqual(blocks.log(), log)
                self.assertEqual(blocks.sizes(), model.sizes())

    def test_no_members(self):
        spy = Spy()
        blocks = Blocks(spy.build, spy.ask, spy.join)
        self.assertEqual(blocks.add_all(), [])
        self.assertEqual((len(blocks), blocks.log(), spy.calls), (0, [], []))

    def test_lists_are_members_and_not_spread(self):
        spy = Spy()
        blocks = Blocks(spy.build, spy.ask, spy.join)
        self.assertEqual(blocks.add_all([1, 2], (3,)), [0, 1])
        self.assertEqual(blocks.members(), [[1, 2], (3,)])


class OfAList(unittest.TestCase):
    def test_one_build_for_each_block(self):
        for many in every_number(1100):
            spy = Spy()
            blocks = of_many(spy, many)
            self.assertIs(type(blocks), Blocks)
            model = Model(many)
            self.assertEqual(blocks.log(), [("build", row) for row in model.rows])
            self.assertEqual(spy.calls, [("build", (row,)) for row in model.rows])
            self.assertEqual(blocks.sizes(), block_sizes(many))
            self.assertEqual(blocks.members(), list(range(many)))
            self.assertEqual(len(blocks), many)

    def test_it_goes_on_like_any_collection(self):
        for many in every_number(130):
            spy, model = Spy(), Model(many)
            blocks = of_many(spy, many)
            log = blocks.log()
            for number in range(many, many + 5):
                planned = model.plan_add()
                self.assertEqual(blocks.plan_add(), planned)
                self.assertEqual(blocks.add(number), number)
                model.add()
                log += planned
                log += model.plan_query()
                self.assertEqual(blocks.query("q"), expected_answer(range(number + 1), "q"))
            self.assertEqual(blocks.log(), log)
            self.assertEqual(blocks.sizes(), model.sizes())

    def test_it_answers_like_a_collection_that_grew(self):
        for many in range(20):
            spy = Spy()
            made, grown = of_many(spy, many), Blocks(spy.build, spy.ask, spy.join)
            grown.add_all(*range(many))
            self.assertEqual(made.query(1), grown.query(1))
            self.assertEqual(made.plan_query(), grown.plan_query())
            self.assertEqual(made.plan_add(), grown.plan_add())

    def test_zero(self):
        spy, zero = Spy(), Untouchable()
        self.assertIs(Blocks.of([], spy.build, spy.ask, spy.join, zero=zero).query(1), zero)
        self.assertIsNone(Blocks.of([], spy.build, spy.ask, spy.join).query(1))
        self.assertEqual(spy.calls, [])
        self.assertEqual(Blocks.of(["a"], spy.build, spy.ask, spy.join, zero=zero).query(1), ((1, "a"),))

    def test_the_list_stays_as_it_is_and_may_be_changed_later(self):
        for many in range(1, 9):
            spy, members = Spy(), list(range(many))
            blocks = Blocks.of(members, spy.build, spy.ask, spy.join)
            self.assertEqual(members, list(range(many)))
            members.reverse()
            members.append("later")
            self.assertEqual(blocks.members(), list(range(many)))
            blocks.add("next")
            self.assertEqual(blocks.query("q"), expected_answer([*range(many), "next"], "q"))
            self.assertEqual(members, [*reversed(range(many)), "later"])

    def test_it_is_called_off_the_class(self):
        self.assertIsInstance(inspect.getattr_static(Blocks, "of"), classmethod)

    def test_a_collection_can_be_asked_for_another_one(self):
        spy = Spy()
        blocks = of_many(spy, 3)
        other = blocks.of(["x"], spy.build, spy.ask, spy.join)
        self.assertEqual((other.members(), blocks.members()), (["x"], [0, 1, 2]))


class Querying(unittest.TestCase):
    def test_answers_and_log(self):
        for many in every_number(1100):
            spy, model = Spy(), Model(many)
            blocks = of_many(spy, many)
            log = blocks.log()
            for question in ("q", None, 7):
                planned = blocks.plan_query()
                self.assertEqual(planned, model.plan_query())
                self.assertEqual(blocks.log(), log)
                answer = blocks.query(question)
                log += planned
                self.assertEqual(blocks.log(), log)
                if many > 0:
                    self.assertEqual(answer, expected_answer(range(many), question))

    def test_order_and_arguments_of_the_calls(self):
        spy = Spy()
        blocks = of_many(spy, 7)
        del spy.calls[:]
        blocks.query("q")
        asked = [(name, values[0].members) for name, values in spy.calls if name == "ask"]
        self.assertEqual(spy.names(), ["ask", "ask", "join", "ask", "join"])
        self.assertEqual(asked, [("ask", (0, 1, 2, 3)), ("ask", (4, 5)), ("ask", (6,))])
        first, second, third = [expected_answer(row, "q") for row in ((0, 1, 2, 3), (4, 5), (6,))]
        joined = [values for name, values in spy.calls if name == "join"]
        self.assertEqual(joined, [(first, second), (first + second, third)])
        self.assertEqual(blocks.log()[-5:], [
            ("ask", (0, 1, 2, 3)), ("ask", (4, 5)), ("join", 4, 2), ("ask", (6,)), ("join", 6, 1),
        ])

    def test_no_members(self):
        for zero in (Untouchable(), [], 0, None, "", object()):
            spy = Spy()
            blocks = Blocks(spy.build, spy.ask, spy.join, zero=zero)
            self.assertEqual(blocks.plan_query(), [])
            self.assertIs(blocks.query("q"), zero)
            self.assertIs(blocks.query("q"), zero)
            self.assertEqual((spy.calls, blocks.log()), ([], []))

    def test_zero_is_none_if_it_is_not_given(self):
        spy = Spy()
        self.assertIsNone(Blocks(spy.build, spy.ask, spy.join).query("q"))

    def test_zero_is_never_joined(self):
        for many in range(1, 9):
            spy = Spy()
            blocks = of_many(spy, many, zero=Untouchable())
            self.assertEqual(blocks.query("q"), expected_answer(range(many), "q"))

    def test_one_member_takes_no_join(self):
        spy = Spy()
        blocks = of_many(spy, 1)
        self.assertEqual(blocks.query("q"), (("q", 0),))
        self.assertEqual(spy.names(), ["build", "ask"])
        self.assertEqual(blocks.log(), [("build", (0,)), ("ask", (0,))])

    def test_asking_changes_nothing(self):
        spy = Spy()
        blocks = of_many(spy, 13)
        self.assertEqual(blocks.query("q"), blocks.query("q"))
        self.assertEqual((blocks.sizes(), blocks.members()), ([8, 4, 1], list(range(13))))
        self.assertEqual(spy.names().count("build"), 3)

    def test_the_last_block_is_asked_that_build_returned(self):
        made, asked = [], []

        def build(members):
            made.append(object())
            return made[-1]

        blocks = Blocks(build, lambda block, question: asked.append(block), lambda one, other: None)
        for many in range(1, 40):
            blocks.add(many)
            del asked[:]
            blocks.query(None)
            # Each addition builds the last one of the blocks.
            self.assertIs(asked[-1], made[-1])
            self.assertEqual(len(asked), len(block_sizes(many)))

    def test_thousands_of_calls(self):
        blocks = Blocks.of(list(range(1000)), sum, lambda block, factor: block * factor, lambda one, other: one + other)
        planned = blocks.plan_query()
        for factor in range(20000):
            self.assertEqual(blocks.query(factor), 499500 * factor)
        self.assertEqual(len(blocks.log()), 6 + 20000 * len(planned))
        self.assertEqual(blocks.log()[-len(planned):], planned)

    def test_other_structures(self):
        source = random.Random(3)
        members = [source.randint(-50, 50) for _ in range(100)]
        least = Blocks(min, lambda block, bound: max(block, bound), min)
        words = Blocks("".join, lambda block, sign: sign.join(block) + sign, lambda one, other: one + other)
        for many, member in enumerate(members, 1):
            least.add(member)
            words.add(str(member))
            self.assertEqual(least.query(-20), max(-20, min(members[:many])))
            text = "".join([str(one) for one in members[:many]])
            self.assertEqual(words.query("."), ".".join(text) + ".")


class AnyHistory(unittest.TestCase):
    def test_histories_of_all_calls(self):
        source = random.Random(11)
        for _ in range(60):
            spy, members, log = Spy(), [], []
            many = source.choice([0, 0, 1, 3, 8])
            members = [source.randint(0, 3) for _ in range(many)]
            blocks = Blocks.of(members, spy.build, spy.ask, spy.join, zero="zero")
            model = Model(many)
            log = [("build", row) for row in model.rows]
            for _ in range(40):
                self.step(source, blocks, model, members, log)
                self.assertEqual(blocks.log(), log)
                self.assertEqual(blocks.members(), members)

    def step(self, source, blocks, model, members, log):
        kind = source.randint(0, 3)
        if kind == 0:
            log += model.plan_query()
            expected = expected_answer(members, kind) if members else "zero"
            self.assertEqual(blocks.query(kind), expected)
        elif kind == 1:
            more = [source.randint(0, 3) for _ in range(source.randint(0, 5))]
            numbers = list(range(len(members), len(members) + len(more)))
            for member in more:
                log += model.plan_add()
                model.add()
                members.append(member)
            self.assertEqual(blocks.add_all(*more), numbers)
        else:
            log += model.plan_add()
            model.add()
            members.append("one")
            self.assertEqual(blocks.add("one"), len(members) - 1)


class AnyMembers(unittest.TestCase):
    def test_equal_and_changeable_members(self):
        members = [None, None, [1], [1], {}, {}, 0, False, 1, True, "", (), float("nan"), object(), len]
        for many in range(len(members) + 1):
            spy = Spy()
            grown = Blocks(spy.build, spy.ask, spy.join)
            self.assertEqual(grown.add_all(*members[:many]), list(range(many)))
            made = Blocks.of(members[:many], spy.build, spy.ask, spy.join)
            for blocks in (grown, made):
                self.assertTrue(same_objects(blocks.members(), members[:many]))
                self.assertTrue(same_objects([member for _, member in blocks.pairs()], members[:many]))
                answer = blocks.query("q") or ()
                self.assertTrue(same_objects([member for _, member in answer], members[:many]))
        self.assertEqual([members[at] for at in (2, 3, 4, 5)], [[1], [1], {}, {}])

    def test_nothing_is_done_to_members_questions_answers_and_blocks(self):
        seen = []

        def build(members):
            seen.append(("build", *members))
            return Untouchable()

        def ask(block, question):
            seen.append(("ask", block, question))
            return Untouchable()

        def join(one, other):
            seen.append(("join", one, other))
            return Untouchable()

        members = [Untouchable() for _ in range(11)]
        question = Untouchable()
        for blocks in (Blocks(build, ask, join), Blocks.of(members[:5], build, ask, join)):
            for member in members[len(blocks):]:
                blocks.add(member)
            version, branch = blocks.version(), blocks.branch()
            for one in (blocks, version, branch):
                del seen[:]
                self.assertIsInstance(one.query(question), Untouchable)
                self.assertEqual([call[0] for call in seen], ["ask", "ask", "join", "ask", "join"])
                self.assertTrue(all(call[2] is question for call in seen if call[0] == "ask"))
                self.assertTrue(same_objects(one.members(), members))
                self.assertTrue(same_objects([member for _, member in one.pairs()], members))
                self.assertEqual(repr(one)[-4:], "(11)")

    def test_answers_are_the_very_objects(self):
        answers = []

        def answer(*values):
            answers.append((values, object()))
            return answers[-1][1]

        blocks = Blocks.of([1, 2, 3], lambda members: len(members), answer, answer)
        found = blocks.query("q")
        (_, first), (_, second), (joined, third) = answers
        self.assertIs(found, third)
        self.assertIs(joined[0], first)
        self.assertIs(joined[1], second)

    def test_none_as_block_answer_and_question(self):
        asked = []

        def note(*values):
            asked.append(values)

        blocks = Blocks(lambda members: None, note, note)
        blocks.add_all(None, None, None)
        self.assertIsNone(blocks.query(None))
        self.assertEqual(asked, [(None, None)] * 3)
        self.assertEqual(blocks.log()[3:], [("ask", (0, 1)), ("ask", (2,)), ("join", 2, 1)])


class NewLists(unittest.TestCase):
    def test_returned_lists_can_be_changed(self):
        for many in (0, 1, 5, 8):
            spy = Spy()
            blocks = of_many(spy, many)
            blocks.query("q")
            readers = [blocks.members, blocks.sizes, blocks.plan_add, blocks.plan_query, blocks.log,
                       lambda: blocks.add_all(), lambda: list(blocks.pairs())]
            for read in readers:
                found = read()
                self.assertIs(type(found), list)
                kept = list(found)
                found.append("spoiled")
                found.reverse()
                self.assertEqual(read(), kept)
                read().clear()
                self.assertEqual(read(), kept)

    def test_lists_stay_as_they_were_returned(self):
        spy = Spy()
        blocks = of_many(spy, 5)
        readers = [blocks.members, blocks.sizes, blocks.plan_add, blocks.plan_query, blocks.log]
        found = [read() for read in readers]
        kept = [list(one) for one in found]
        blocks.add_all("x", "y", "z")
        blocks.query("q")
        self.assertEqual(found, kept)

    def test_the_list_of_new_numbers_is_new(self):
        spy = Spy()
        blocks = of_many(spy, 2)
        numbers = blocks.add_all("a", "b")
        numbers.append(99)
        self.assertEqual(blocks.add_all("c"), [4])
        self.assertEqual([number for number, _ in blocks.pairs()], [0, 1, 2, 3, 4])

    def test_build_may_keep_and_change_its_list(self):
        # The list itself is the block here, and it grows after it was built.
        def build(members):
            members.append("mark")
            return members

        def ask(block, question):
            block.append("asked")
            return [member for member in block if member not in ("mark", "asked")]

        grown = Blocks(build, ask, lambda one, other: one + other)
        made = Blocks.of([0, 1, 2, 3, 4], build, ask, lambda one, other: one + other)
        grown.add_all(0, 1, 2, 3, 4)
        for blocks in (grown, made):
            for number in range(5, 12):
                blocks.query("q")
                self.assertEqual(blocks.add(number), number)
                self.assertEqual(blocks.query("q"), list(range(number + 1)))
                self.assertEqual(blocks.members(), list(range(number + 1)))

    def test_entries_are_tuples_of_plain_values(self):
        spy = Spy()
        blocks = of_many(spy, 7)
        blocks.add_all(7, 8)
        blocks.query("q")
        for entry in [*blocks.log(), *blocks.plan_add(), *blocks.plan_query()]:
            self.assertIs(type(entry), tuple)
            if entry[0] in ("build", "ask"):
                self.assertEqual(len(entry), 2)
                self.assertIs(type(entry[1]), tuple)
                numbers = entry[1]
            else:
                self.assertEqual((entry[0], len(entry)), ("join", 3))
                numbers = entry[1:]
            self.assertTrue(all(type(number) is int for number in numbers))


class Plans(unittest.TestCase):
    def test_plans_call_nothing_and_change_nothing(self):
        for many in every_number(130):
            spy = Spy()
            blocks = of_many(spy, many)
            calls, log = len(spy.calls), blocks.log()
            plans = [(blocks.plan_add(), blocks.plan_query()) for _ in range(3)]
            self.assertEqual(plans, [plans[0]] * 3)
            self.assertEqual((len(spy.calls), blocks.log(), len(blocks)), (calls, log, many))
            self.assertEqual((blocks.sizes(), blocks.members()), (block_sizes(many), list(range(many))))


class Pairs(unittest.TestCase):
    def test_numbers_and_members_in_order(self):
        for many in every_number(130):
            spy = Spy()
            blocks = Blocks.of([f"m{number}" for number in range(many)], spy.build, spy.ask, spy.join)
            pairs = blocks.pairs()
            self.assertIsInstance(pairs, types.GeneratorType)
            found = list(pairs)
            self.assertEqual(found, [(number, f"m{number}") for number in range(many)])
            self.assertTrue(all(type(pair) is tuple and type(pair[0]) is int for pair in found))

    def test_pairs_are_those_of_the_first_item(self):
        spy = Spy()
        blocks = Blocks(spy.build, spy.ask, spy.join)
        early = blocks.pairs()
        blocks.add("a")
        begun = blocks.pairs()
        self.assertEqual(next(begun), (0, "a"))
        unbegun = blocks.pairs()
        blocks.add_all("b", "c")
        self.assertEqual(list(begun), [])
        self.assertEqual(list(unbegun), [(0, "a"), (1, "b"), (2, "c")])
        self.assertEqual(list(early), [(0, "a"), (1, "b"), (2, "c")])

    def test_members_may_be_added_in_a_loop_over_pairs(self):
        spy = Spy()
        blocks = Blocks(spy.build, spy.ask, spy.join)
        blocks.add_all("a", "b", "c")
        for number, member in blocks.pairs():
            self.assertLess(number, 3)
            blocks.add(member * 2)
        self.assertEqual(blocks.members(), ["a", "b", "c", "aa", "bb", "cc"])

    def test_two_loops_at_once(self):
        spy = Spy()
        blocks = of_many(spy, 3)
        one, other = blocks.pairs(), blocks.pairs()
        self.assertEqual([next(one), next(other), next(one), next(other)], [(0, 0), (0, 0), (1, 1), (1, 1)])
        self.assertEqual((list(one), list(other)), ([(2, 2)], [(2, 2)]))


class LengthAndName(unittest.TestCase):
    def test_len_repr_and_truth(self):
        spy = Spy()
        blocks = Blocks(spy.build, spy.ask, spy.join)
        self.assertEqual((len(blocks), repr(blocks), str(blocks)), (0, "Blocks(0)", "Blocks(0)"))
        self.assertFalse(blocks)
        for many in range(1, 14):
            blocks.add(None)
            self.assertEqual((len(blocks), repr(blocks)), (many, f"Blocks({many})"))
            self.assertTrue(blocks)
        self.assertEqual(repr(blocks), "Blocks(13)")

    def test_name(self):
        self.assertEqual(Blocks.NAME, "Blocks")
        self.assertEqual(of_many(Spy(), 2).NAME, "Blocks")


class Arguments(unittest.TestCase):
    def test_by_name(self):
        spy = Spy()
        blocks = Blocks(join=spy.join, ask=spy.ask, build=spy.build, zero="zero")
        self.assertEqual(blocks.query(question="q"), "zero")
        self.assertEqual(blocks.add(member="a"), 0)
        self.assertEqual(blocks.query(question="q"), (("q", "a"),))
        made = Blocks.of(zero="zero", join=spy.join, ask=spy.ask, build=spy.build, members=["a", "b"])
        self.assertEqual(made.query(question="q"), (("q", "a"), ("q", "b")))
        self.assertEqual(Blocks.of([], spy.build, ask=spy.ask, join=spy.join, zero=4).query("q"), 4)

    def test_zero_by_name_only(self):
        spy = Spy()
        with self.assertRaises(TypeError):
            Blocks(spy.build, spy.ask, spy.join, 0)
        with self.assertRaises(TypeError):
            Blocks.of([], spy.build, spy.ask, spy.join, 0)

    def test_callables_get_their_arguments_by_position(self):
        def build(a, /):
            return tuple(a)

        def ask(a, b, /):
            return a

        def join(a, b, /):
            return a + b

        blocks = Blocks.of([1, 2, 3], build, ask, join)
        blocks.add(4)
        blocks.add(5)
        self.assertEqual(blocks.query(None), (1, 2, 3, 4, 5))

    def test_any_callables(self):
        class Callable:
            def __call__(self, members):
                return Block(members)

        class Questions:
            def ask(self, block, question):
                return block.members

        blocks = Blocks(Callable(), Questions().ask, tuple.__add__)
        blocks.add_all(*"abcde")
        self.assertEqual(blocks.query(None), tuple("abcde"))


class Separate(unittest.TestCase):
    def test_two_collections_share_nothing(self):
        spy = Spy()
        one, other = [Blocks(spy.build, spy.ask, spy.join) for _ in range(2)]
        one.add_all("a", "b", "c")
        self.assertEqual((len(other), other.log(), other.sizes(), other.members()), (0, [], [], []))
        other.add("x")
        self.assertEqual((one.members(), one.sizes()), (["a", "b", "c"], [2, 1]))
        self.assertEqual((other.query("q"), one.query("q")[0]), ((("q", "x"),), ("q", "a")))

    def test_two_collections_of_one_list(self):
        spy, members = Spy(), ["a", "b", "c"]
        one, other = [Blocks.of(members, spy.build, spy.ask, spy.join) for _ in range(2)]
        one.add("d")
        self.assertEqual((len(one), len(other), members), (4, 3, ["a", "b", "c"]))
        self.assertEqual(other.plan_add(), [("build", (0, 1, 2, 3))])


if __name__ == "__main__":
    unittest.main()
