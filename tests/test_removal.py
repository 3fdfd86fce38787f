"""Point 8: Cancelling and Dropping, what they build, drop and rebuild, and what is no member."""

import random
import unittest
from collections import Counter

from oncebuilt.errors import NoMember
from oncebuilt.removal import Cancelling, Dropping
from tests.helpers import BagSpy, Failure, Spy, expected_answer
from tests.kinds import NO_NUMBERS, CancellingKind, DroppingKind, some_operation
from tests.models import rows_of

KINDS = [CancellingKind(), DroppingKind()]


def cancelling_of(spy, many):
    collection = Cancelling(spy.build, spy.ask, spy.join, spy.unjoin, zero="zero")
    for number in range(many):
        collection.add(f"m{number}")
    return collection


def dropping_of(spy, many):
    collection = Dropping(spy.build, spy.ask, spy.join, spy.drop, zero="zero")
    for number in range(many):
        collection.add(f"m{number}")
    return collection


class CancellingByHand(unittest.TestCase):
    def check(self, collection, action, plan, expected):
        log = collection.log()
        self.assertEqual(plan(), expected)
        result = action()
        self.assertEqual(collection.log(), log + expected)
        return result

    def test_a_history(self):
        spy = BagSpy()
        collection = cancelling_of(spy, 7)
        self.assertEqual(collection.log(), [
            ("build", 0, (0,)), ("build", 0, (0, 1)), ("build", 0, (2,)), ("build", 0, (0, 1, 2, 3)),
            ("build", 0, (4,)), ("build", 0, (4, 5)), ("build", 0, (6,)),
        ])
        self.check(collection, lambda: collection.query("q"), collection.plan_query, [
            ("ask", 0, (0, 1, 2, 3)), ("ask", 0, (4, 5)), ("join", 0, 4, 2), ("ask", 0, (6,)), ("join", 0, 6, 1),
        ])
        for number, expected in ((5, [("build", 1, (5,))]), (2, [("build", 1, (5, 2))]), (4, [("build", 1, (4,))])):
            self.check(collection, lambda: collection.remove(number), lambda: collection.plan_remove(number), expected)
        self.assertEqual(collection.numbers(), [0, 1, 3, 6])
        answer = self.check(collection, lambda: collection.query("q"), collection.plan_query, [
            ("ask", 0, (0, 1, 2, 3)), ("ask", 0, (4, 5)), ("join", 0, 4, 2), ("ask", 0, (6,)), ("join", 0, 6, 1),
            ("ask", 1, (5, 2)), ("ask", 1, (4,)), ("join", 1, 2, 1), ("unjoin", 7, 3),
        ])
        self.assertEqual(answer, Counter([("q", "m0"), ("q", "m1"), ("q", "m3"), ("q", "m6")]))
        # An addition replaces blocks of all members since the rebuild, with those that were removed.
        self.check(collection, lambda: collection.add("m7"), collection.plan_add, [
            ("build", 0, (0, 1, 2, 3, 4, 5, 6, 7)),
        ])
        self.check(collection, lambda: collection.query("q"), collection.plan_query, [
            ("ask", 0, (0, 1, 2, 3, 4, 5, 6, 7)),
            ("ask", 1, (5, 2)), ("ask", 1, (4,)), ("join", 1, 2, 1), ("unjoin", 8, 3),
        ])
        # Four of eight would be removed, so the present four are built anew.
        self.check(collection, lambda: collection.remove(0), lambda: collection.plan_remove(0), [
            ("build", 0, (1, 3, 6, 7)),
        ])
        self.check(collection, lambda: collection.query("q"), collection.plan_query, [("ask", 0, (1, 3, 6, 7))])
        self.check(collection, lambda: collection.remove(7), lambda: collection.plan_remove(7), [("build", 1, (7,))])
        self.check(collection, lambda: collection.add("m8"), collection.plan_add, [("build", 0, (8,))])
        self.check(collection, lambda: collection.remove(1), lambda: collection.plan_remove(1), [
            ("build", 1, (7, 1)),
        ])
        self.check(collection, lambda: collection.remove(8), lambda: collection.plan_remove(8), [
            ("build", 0, (3, 6)),
        ])
        self.check(collection, lambda: collection.remove(3), lambda: collection.plan_remove(3), [("build", 0, (6,))])
        self.check(collection, lambda: collection.remove(6), lambda: collection.plan_remove(6), [])
        self.assertEqual((collection.plan_query(), collection.query("q")), ([], "zero"))
        self.check(collection, lambda: collection.add("m9"), collection.plan_add, [("build", 0, (9,))])

    def test_builds_get_the_members_in_the_order_of_removal(self):
        spy = BagSpy()
        collection = cancelling_of(spy, 9)
        for number in (7, 3, 5, 1):
            collection.remove(number)
        built = [members for name, (members, *_) in spy.calls if name == "build"]
        self.assertEqual(built[9:], [("m7",), ("m7", "m3"), ("m5",), ("m7", "m3", "m5", "m1")])

    def test_unjoin_gets_both_answers(self):
        spy = BagSpy()
        collection = cancelling_of(spy, 5)
        collection.remove(1)
        collection.remove(4)
        collection.query("q")
        name, (one, other) = spy.calls[-1]
        self.assertEqual(name, "unjoin")
        self.assertEqual(one, Counter([("q", f"m{number}") for number in range(5)]))
        self.assertEqual(other, Counter([("q", "m1"), ("q", "m4")]))

    def test_other_structures(self):
        sums = Cancelling(sum, lambda block, factor: block * factor, lambda one, other: one + other,
                          lambda one, other: one - other, zero=0)
        counts = Cancelling(sorted, lambda block, bound: len([one for one in block if one < bound]),
                            lambda one, other: one + other, lambda one, other: one - other, zero=0)
        carryless = Cancelling(lambda members: members, lambda block, question: xor_of(block),
                               lambda one, other: one ^ other, lambda one, other: one ^ other, zero=0)
        source = random.Random(8)
        for collection, expected in ((sums, lambda present: 3 * sum(present)),
                                     (counts, lambda present: len([one for one in present if one < 3])),
                                     (carryless, xor_of)):
            present = {}
            for _ in range(300):
                if present and source.random() < 0.45:
                    number = source.choice(list(present))
                    del present[number]
                    self.assertIsNone(collection.remove(number))
                else:
                    member = source.randint(0, 20)
                    present[collection.add(member)] = member
                self.assertEqual(collection.query(3), expected(list(present.values())))
                self.assertEqual(collection.numbers(), sorted(present))


def xor_of(integers):
    found = 0
    for integer in integers:
        found ^= integer
    return found


class DroppingByHand(unittest.TestCase):
    def check(self, collection, action, plan, expected):
        log = collection.log()
        self.assertEqual(plan(), expected)
        result = action()
        self.assertEqual(collection.log(), log + expected)
        return result

    def test_a_history(self):
        spy = Spy()
        collection = dropping_of(spy, 7)

        def remove(number, expected):
            self.check(collection, lambda: collection.remove(number), lambda: collection.plan_remove(number), expected)

        remove(4, [("drop", (4, 5), 4)])
        # The block has no other present member: it becomes empty, and nothing is called.
        remove(5, [])
        answer = self.check(collection, lambda: collection.query("q"), collection.plan_query, [
            ("ask", (0, 1, 2, 3)), ("ask", (6,)), ("join", 4, 1),
        ])
        self.assertEqual(answer, expected_answer(["m0", "m1", "m2", "m3", "m6"], "q"))
        remove(2, [("drop", (0, 1, 2, 3), 2)])
        self.check(collection, lambda: collection.query("q"), collection.plan_query, [
            ("ask", (0, 1, 3)), ("ask", (6,)), ("join", 3, 1),
        ])
        # Blocks are replaced by their sizes with the removed members, but only the present ones are built.
        self.check(collection, lambda: collection.add("m7"), collection.plan_add, [("build", (0, 1, 3, 6, 7))])
        remove(0, [("build", (1, 3, 6, 7))])
        remove(7, [("drop", (1, 3, 6, 7), 7)])
        self.check(collection, lambda: collection.add("m8"), collection.plan_add, [("build", (8,))])
        self.check(collection, lambda: collection.add("m9"), collection.plan_add, [("build", (8, 9))])
        remove(8, [("drop", (8, 9), 8)])
        remove(9, [("build", (1, 3)), ("build", (6,))])
        remove(3, [("drop", (1, 3), 3)])
        remove(1, [("build", (6,))])
        remove(6, [])
        self.assertEqual((collection.plan_query(), collection.query("q")), ([], "zero"))
        self.check(collection, lambda: collection.add("m10"), collection.plan_add, [("build", (10,))])

    def test_an_empty_block_is_replaced_like_any_other(self):
        spy = Spy()
        collection = dropping_of(spy, 5)
        collection.remove(4)
        self.assertEqual(collection.plan_query(), [("ask", (0, 1, 2, 3))])
        self.check(collection, lambda: collection.add("m5"), collection.plan_add, [("build", (5,))])
        self.assertEqual(collection.plan_query(), [("ask", (0, 1, 2, 3)), ("ask", (5,)), ("join", 4, 1)])
        self.check(collection, lambda: collection.add("m6"), collection.plan_add, [("build", (6,))])
        self.check(collection, lambda: collection.add("m7"), collection.plan_add, [("build", (0, 1, 2, 3, 5, 6, 7))])
        answer = expected_answer([f"m{number}" for number in (0, 1, 2, 3, 5, 6, 7)], "q")
        self.assertEqual(collection.query("q"), answer)

    def test_an_empty_block_between_others(self):
        spy = Spy()
        collection = dropping_of(spy, 7)
        collection.remove(5)
        collection.remove(4)
        self.assertEqual(collection.plan_query(), [("ask", (0, 1, 2, 3)), ("ask", (6,)), ("join", 4, 1)])
        self.assertEqual(collection.query("q"), expected_answer(["m0", "m1", "m2", "m3", "m6"], "q"))

    def test_an_empty_block_at_the_beginning(self):
        spy = Spy()
        collection = dropping_of(spy, 3)
        for number in (0, 1):
            # Two of three would be too many, so another member comes first.
            if number == 1:
                collection.add("m3")
                collection.add("m4")
            collection.remove(number)
        self.assertEqual(collection.plan_query(), [("ask", (2, 3)), ("ask", (4,)), ("join", 2, 1)])
        self.assertEqual(collection.query("q"), expected_answer(["m2", "m3", "m4"], "q"))

    def test_drop_gets_the_last_block_and_the_member(self):
        blocks, dropped = [], []

        def made(*values):
            blocks.append(object())
            return blocks[-1]

        def drop(block, member):
            dropped.append((block, member))
            return made()

        asked = []
        collection = Dropping(made, lambda block, question: asked.append(block), made, drop)
        for letter in "abcdefgh":
            collection.add(letter)
        for number in (3, 0, 7):
            last = blocks[-1]
            collection.remove(number)
            self.assertIs(dropped[-1][0], last)
            self.assertEqual(dropped[-1][1], "abcdefgh"[number])
            collection.query(None)
            self.assertIs(asked[-1], blocks[-1])
        self.assertEqual(len(asked), 3)

    def test_a_block_whose_drop_failed_is_used_again(self):
        spy = Spy()
        collection = dropping_of(spy, 4)
        for _ in range(3):
            spy.fail(0, Failure())
            with self.assertRaises(Failure):
                collection.remove(1)
            self.assertEqual(collection.plan_remove(2), [("drop", (0, 1, 2, 3), 2)])
            self.assertEqual(collection.query("q"), expected_answer(["m0", "m1", "m2", "m3"], "q"))
        collection.remove(2)
        self.assertEqual(collection.query("q"), expected_answer(["m0", "m1", "m3"], "q"))

    def test_other_structures(self):
        texts = Dropping("".join, lambda block, sign: block.replace("a", sign), lambda one, other: one + other,
                         lambda block, member: block.replace(member, ""), zero="")
        least = Dropping(sorted, lambda block, bound: max(block[0], bound), min,
                         lambda block, member: [one for one in block if one != member], zero=None)
        letters = [chr(at) for at in range(ord("a"), ord("a") + 200)]
        source = random.Random(12)
        for collection, expected in ((texts, lambda present: "".join(present)),
                                     (least, lambda present: min(present, default=None))):
            present = {}
            for member in letters:
                present[collection.add(member)] = member
                while present and source.random() < 0.45:
                    number = source.choice(list(present))
                    del present[number]
                    self.assertIsNone(collection.remove(number))
                    self.assertEqual(collection.query("a"), expected(list(present.values())))
                self.assertEqual(collection.query("a"), expected(list(present.values())))


class Rebuilding(unittest.TestCase):
    def test_when_half_would_be_removed(self):
        for kind in KINDS:
            for many in range(1, 40):
                spy, collection, model = kind.fresh()
                for number in range(many):
                    collection.add(f"m{number}")
                # The removal with the number (many + 1) // 2 is the first one that makes it half.
                for number in range((many + 1) // 2 - 1):
                    entries = collection.plan_remove(number)
                    self.assertLessEqual(len(entries), 1)
                    self.assertNotIn(("build", 0), [entry[:2] for entry in entries])
                    collection.remove(number)
                number = (many + 1) // 2 - 1
                rest = list(range(number + 1, many))
                mark = (0,) if kind.made_class is Cancelling else ()
                rows = [("build", *mark, row) for row in rows_of(rest)]
                self.assertEqual(collection.plan_remove(number), rows)
                calls = len(spy.calls)
                collection.remove(number)
                self.assertEqual(spy.names()[calls:], ["build"] * len(rows))
                self.assertEqual([values[0] for _, values in spy.calls[calls:]],
                                 [tuple(f"m{one}" for one in row) for row in rows_of(rest)])
                self.assertEqual(collection.numbers(), rest)
                expected = [("ask", *mark, row) for row in rows_of(rest)]
                self.assertEqual([entry for entry in collection.plan_query() if entry[0] == "ask"], expected)

    def test_at_most_as_many_members_are_rebuilt_as_were_removed(self):
        for kind in KINDS:
            for seed in range(30):
                source = random.Random(seed)
                spy, collection, model = kind.fresh()
                removed = rebuilt = 0
                adding, removing = source.choice([(5, 3), (5, 5), (4, 5), (9, 2)])
                for _ in range(150):
                    operation = some_operation(kind, model, source, adding=adding, removing=removing)
                    entries = kind.plan(collection, operation)
                    kind.apply(collection, operation)
                    model.advance(operation)
                    if operation[0] == "remove":
                        removed += 1
                        first_row = entries if kind.made_class is Dropping else [one for one in entries if one[1] == 0]
                        rebuilt += sum(len(entry[-1]) for entry in first_row if entry[0] == "build")
                    self.assertLessEqual(rebuilt, removed)

    def test_an_addition_builds_once_and_a_removal_drops_at_most_once(self):
        for kind in KINDS:
            for seed in range(20):
                source = random.Random(seed)
                spy, collection, model = kind.fresh()
                for _ in range(60):
                    operation = some_operation(kind, model, source, adding=4)
                    before = len(spy.calls)
                    kind.apply(collection, operation)
                    names = spy.names()[before:]
                    if operation[0] == "add":
                        self.assertEqual(names, ["build"])
                    elif operation[0] == "remove":
                        self.assertLessEqual(names.count("drop"), 1)
                        self.assertTrue(names.count("drop") == 0 or names == ["drop"])
                    model.advance(operation)

    def test_a_rebuild_that_fails_leaves_the_old_blocks(self):
        for kind in KINDS:
            for many in range(2, 24):
                at = (many + 1) // 2 - 1
                builds = len(rows_of(list(range(at + 1, many))))
                for later in range(builds):
                    spy, collection, model = kind.fresh()
                    for number in range(many):
                        operation = ("add", f"m{number}", 0)
                        kind.apply(collection, operation)
                        model.advance(operation)
                    for number in range(at):
                        kind.apply(collection, ("remove", number))
                        model.advance(("remove", number))
                    log, planned = collection.log(), collection.plan_remove(at)
                    asked = collection.plan_query()
                    spy.fail(later, Failure())
                    with self.assertRaises(Failure):
                        collection.remove(at)
                    self.assertEqual(collection.log(), log + planned[:later])
                    self.assertEqual(collection.plan_query(), asked)
                    self.assertEqual(collection.query("q"), spy.answer(model.members(), "q"))
                    # Another removal, or the same one, is rebuilt from its own present members.
                    for number in model.present:
                        self.assertEqual(collection.plan_remove(number), model.plan(("remove", number)))
                    self.assertEqual(collection.plan_add(), model.plan(("add", "x", 0)))
                    collection.remove(many - 1)
                    model.advance(("remove", many - 1))
                    self.assertEqual(collection.query("q"), kind.result(spy, model, ("query", "q")))


class WrongNumbers(unittest.TestCase):
    def check(self, kind, collection, number):
        log, members = collection.log(), collection.members()
        for action in (lambda: collection.remove(number), lambda: collection.plan_remove(number),
                       lambda: collection.remove(number=number), lambda: collection.plan_remove(number=number)):
            with self.assertRaises(NoMember) as caught:
                action()
            self.assertIs(caught.exception.number, number)
        self.assertEqual((collection.log(), collection.members()), (log, members))

    def test_what_is_no_number(self):
        for kind in KINDS:
            for many in (0, 1, 2, 5):
                spy, collection, model = kind.fresh()
                for number in range(many):
                    collection.add(number)
                calls = len(spy.calls)
                for number in [*NO_NUMBERS, many, many + 1, -many - 1, str(many), collection, spy.build]:
                    self.check(kind, collection, number)
                self.assertEqual((len(spy.calls), len(collection)), (calls, many))

    def test_members_that_were_removed(self):
        for kind in KINDS:
            for seed in range(20):
                source = random.Random(seed)
                spy, collection, model = kind.fresh()
                for _ in range(40):
                    operation = some_operation(kind, model, source, adding=4)
                    kind.apply(collection, operation)
                    model.advance(operation)
                    if operation[0] == "remove":
                        self.check(kind, collection, operation[1])
                gone = [number for number in range(model.given) if number not in model.present]
                for number in [*gone, model.given]:
                    self.check(kind, collection, number)

    def test_members_are_not_numbers(self):
        for kind in KINDS:
            spy, collection, model = kind.fresh()
            for member in (7, 8, "a"):
                collection.add(member)
            for member in (7, 8, "a"):
                self.check(kind, collection, member)

    def test_a_member_whose_addition_failed(self):
        for kind in KINDS:
            spy, collection, model = kind.fresh()
            collection.add("a")
            spy.fail(0, Failure())
            with self.assertRaises(Failure):
                collection.add("b")
            self.check(kind, collection, 1)
            self.assertEqual(collection.add("b"), 1)
            self.assertIsNone(collection.remove(1))

    def test_an_integer_of_a_class_of_its_own(self):
        class Own(int):
            pass

        for kind in KINDS:
            for number in range(5):
                spy, collection, model = kind.fresh()
                for one in range(5):
                    collection.add(f"m{one}")
                planned = collection.plan_remove(number)
                self.assertEqual(collection.plan_remove(Own(number)), planned)
                self.assertIsNone(collection.remove(Own(number)))
                self.assertEqual(collection.numbers(), [one for one in range(5) if one != number])
                self.check(kind, collection, Own(number))
                self.check(kind, collection, Own(5))

    def test_it_is_a_lookup_error(self):
        for kind in KINDS:
            spy, collection, model = kind.fresh()
            with self.assertRaises(LookupError):
                collection.remove(0)


class Numbers(unittest.TestCase):
    def test_numbers_are_not_used_again(self):
        for kind in KINDS:
            spy, collection, model = kind.fresh()
            for number in range(20):
                self.assertEqual(collection.add("same"), number)
                if number % 2:
                    self.assertIsNone(collection.remove(number))
                    self.assertIsNone(collection.remove(number - 1))
                    self.assertEqual((collection.numbers(), len(collection)), ([], 0))

    def test_numbers_in_ascending_order(self):
        for kind in KINDS:
            spy, collection, model = kind.fresh()
            self.assertEqual(collection.numbers(), [])
            for number in range(10):
                collection.add(10 - number)
            for number in (3, 8, 0):
                collection.remove(number)
            self.assertEqual(collection.numbers(), [1, 2, 4, 5, 6, 7, 9])
            self.assertEqual(collection.members(), [9, 8, 6, 5, 4, 3, 1])
            self.assertEqual(list(collection.pairs()),
                             [(1, 9), (2, 8), (4, 6), (5, 5), (6, 4), (7, 3), (9, 1)])

    def test_equal_members_are_told_apart(self):
        # Only one of the equal members leaves, the one with the number.
        collection = Cancelling(list, lambda block, question: Counter(block), lambda one, other: one + other,
                                lambda one, other: one - other)
        for _ in range(5):
            collection.add("a")
        collection.remove(3)
        self.assertEqual((collection.numbers(), collection.query(None)), ([0, 1, 2, 4], Counter({"a": 4})))
        dropping = Dropping(len, lambda block, question: block, lambda one, other: one + other,
                            lambda block, member: block - 1)
        for _ in range(5):
            dropping.add("a")
        dropping.remove(3)
        self.assertEqual((dropping.numbers(), dropping.query(None)), ([0, 1, 2, 4], 4))


class Arguments(unittest.TestCase):
    def test_by_name(self):
        spy = BagSpy()
        collection = Cancelling(unjoin=spy.unjoin, join=spy.join, ask=spy.ask, build=spy.build, zero="none")
        self.assertEqual(collection.query(question="q"), "none")
        self.assertEqual([collection.add(member=letter) for letter in "abc"], [0, 1, 2])
        self.assertEqual(collection.plan_remove(number=1), [("build", 1, (1,))])
        self.assertIsNone(collection.remove(number=1))
        self.assertEqual(collection.query(question="q"), Counter([("q", "a"), ("q", "c")]))
        spy = Spy()
        collection = Dropping(drop=spy.drop, join=spy.join, ask=spy.ask, build=spy.build, zero="none")
        self.assertEqual(collection.query(question="q"), "none")
        self.assertEqual([collection.add(member=letter) for letter in "abc"], [0, 1, 2])
        self.assertEqual(collection.plan_remove(number=1), [("drop", (0, 1), 1)])
        self.assertIsNone(collection.remove(number=1))
        self.assertEqual(collection.query(question="q"), (("q", "a"), ("q", "c")))

    def test_zero_by_name_only_and_none_by_default(self):
        spy = BagSpy()
        for made, last in ((Cancelling, spy.unjoin), (Dropping, spy.drop)):
            with self.assertRaises(TypeError):
                made(spy.build, spy.ask, spy.join, last, 0)
            self.assertIsNone(made(spy.build, spy.ask, spy.join, last).query("q"))

    def test_callables_get_their_arguments_by_position(self):
        def build(a, /):
            return Counter(a)

        def ask(a, b, /):
            return a

        def both(a, b, /):
            return a + b

        def take(a, b, /):
            return a - b

        def drop(a, b, /):
            return a - Counter([b])

        for collection in (Cancelling(build, ask, both, take), Dropping(build, ask, both, drop)):
            for letter in "abcdefg":
                collection.add(letter)
            collection.remove(2)
            collection.remove(4)
            self.assertEqual(collection.query(None), Counter("abdfg"))

    def test_lists_that_are_passed_are_new(self):
        passed = []

        def build(members):
            for other in passed:
                assert members is not other
            passed.append(members)
            made = Counter(members)
            members.append("spoiled")
            return made

        def plus(one, other):
            return one + other

        collections = (
            Cancelling(build, lambda block, question: block, plus, lambda one, other: one - other),
            Dropping(build, lambda block, question: block, plus, lambda block, member: block - Counter([member])),
        )
        for collection in collections:
            for letter in "abcdefghij":
                collection.add(letter)
            for number in (9, 1, 4, 0, 2, 8):
                collection.remove(number)
                present = [letter for at, letter in enumerate("abcdefghij") if at in collection.numbers()]
                self.assertEqual(collection.query(None), Counter(present))


if __name__ == "__main__":
    unittest.main()
