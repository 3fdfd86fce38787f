"""Points 4 and 15: the collections with the ready-made structures as callables, against plain computations."""

import operator
import random
import unittest

from oncebuilt.blocks import Blocks
from oncebuilt.histories import answers, plan_answers
from oncebuilt.ranked import Ranked
from oncebuilt.removal import Cancelling, Dropping
from oncebuilt.steady import Steady
from oncebuilt.structures import Span, Unions, count_below, least_at, lines_block, sorted_block
from oncebuilt.timed import Timed
from tests.plain import connected, count_less, least_value, spanned


class Sorted:
    """Integers, of which those below a bound are counted."""

    build, ask, join, zero = staticmethod(sorted_block), staticmethod(count_below), operator.add, 0
    plain = staticmethod(count_less)

    @staticmethod
    def member(source):
        return source.choice([source.randint(-9, 9), source.randint(-10 ** 29, 10 ** 29)])

    @staticmethod
    def question(source):
        return source.choice([source.randint(-10, 10), 10 ** 29 + 1, -10 ** 29])


class Lines:
    """Lines, of which the least value is asked."""

    build, ask, join, zero = staticmethod(lines_block), staticmethod(least_at), min, None
    plain = staticmethod(least_value)

    @staticmethod
    def member(source):
        return (source.randint(-9, 9), source.randint(-99, 99))

    @staticmethod
    def question(source):
        return source.randint(-30, 30)


BUILT = [Sorted, Lines]


def rebuilt(structure):
    """build, ask and drop of blocks that also keep the list of their members, for a Dropping."""
    def build(members):
        return (list(members), structure.build(members))

    def ask(block, question):
        return structure.ask(block[1], question)

    def drop(block, member):
        at = block[0].index(member)
        return build(block[0][:at] + block[0][at + 1:])

    return build, ask, drop


class BuiltStructures(unittest.TestCase):
    def check(self, collection, structure, present, source):
        question = structure.question(source)
        expected = structure.plain(present, question) if present else structure.zero
        planned, log = collection.plan_query(), len(collection.log())
        self.assertEqual(collection.query(question), expected)
        self.assertEqual(collection.log()[log:], planned)

    def check_growth(self, collection, structure, source, many=120):
        present = collection.members()
        for _ in range(many):
            self.check(collection, structure, present, source)
            present.append(structure.member(source))
            collection.add(present[-1])
        self.check(collection, structure, present, source)

    def test_blocks(self):
        for structure in BUILT:
            for many in (0, 1, 6):
                source = random.Random(many)
                members = [structure.member(source) for _ in range(many)]
                blocks = Blocks.of(members, structure.build, structure.ask, structure.join, zero=structure.zero)
                self.check_growth(blocks, structure, source)

    def test_versions_and_branches(self):
        for structure in BUILT:
            source, kept = random.Random(2), []
            blocks = Blocks(structure.build, structure.ask, structure.join, zero=structure.zero)
            for _ in range(12):
                blocks.add(structure.member(source))
                kept.append((blocks.version(), blocks.members()))
                kept.append((blocks.branch(), blocks.members()))
            for collection, present in kept:
                self.check(collection, structure, present, source)
            for branch, _ in kept[1::2]:
                self.check_growth(branch, structure, source, many=5)
            for version, present in kept[::2]:
                self.check(version, structure, present, source)

    def test_steady(self):
        for structure in BUILT:
            steady = Steady(list, list.append, structure.build, structure.ask, structure.join, zero=structure.zero)
            self.check_growth(steady, structure, random.Random(3))

    def check_removal(self, collection, structure, source):
        present = {}
        for _ in range(250):
            if present and source.random() < 0.45:
                number = source.choice(list(present))
                collection.remove(number)
                del present[number]
            else:
                member = structure.member(source)
                present[collection.add(member)] = member
            self.check(collection, structure, list(present.values()), source)

    def test_cancelling(self):
        for seed in range(5):
            collection = Cancelling(sorted_block, count_below, operator.add, operator.sub, zero=0)
            self.check_removal(collection, Sorted, random.Random(seed))

    def test_cancelling_with_lines(self):
        # The least value has no inverse, but how many lines are below a value can be cancelled.
        class Below:
            zero = 0

            @staticmethod
            def plain(lines, question):
                return sum(least_value([line], question[0]) < question[1] for line in lines)

            @staticmethod
            def member(source):
                return Lines.member(source)

            @staticmethod
            def question(source):
                return (source.randint(-9, 9), source.randint(-50, 50))

        def build(lines):
            return [lines_block([line]) for line in lines]

        def ask(block, question):
            return count_below(sorted_block([least_at(one, question[0]) for one in block]), question[1])

        collection = Cancelling(build, ask, operator.add, operator.sub, zero=0)
        self.check_removal(collection, Below, random.Random(6))

    def test_dropping(self):
        for structure in BUILT:
            for seed in range(5):
                build, ask, drop = rebuilt(structure)
                collection = Dropping(build, ask, structure.join, drop, zero=structure.zero)
                self.check_removal(collection, structure, random.Random(seed))


class Connections:
    """Pairs of points, whose components are asked."""

    MANY = 12

    @classmethod
    def made(cls):
        return Unions(cls.MANY)

    @classmethod
    def plain(cls, pairs, question):
        return connected(cls.MANY, pairs, question)

    @classmethod
    def member(cls, source):
        return (source.randrange(cls.MANY), source.randrange(cls.MANY))

    @classmethod
    def question(cls, source):
        return source.choice([("groups",), ("size", source.randrange(cls.MANY)), ("same", *cls.member(source))])


class Sums:
    """Integers, whose sums without carry are asked."""

    made, plain = Span, staticmethod(spanned)

    @staticmethod
    def member(source):
        return source.randint(0, 255)

    @staticmethod
    def question(source):
        return source.choice([("rank",), ("holds", source.randint(0, 300))])


UNDOING = [Connections, Sums]


class UndoingStructures(unittest.TestCase):
    def check(self, collection, structure, present, source):
        question = structure.question(source)
        self.assertEqual(collection.query(question), structure.plain(present, question))

    def made(self, made_class, structure):
        inner = structure.made()
        return made_class(inner.push, inner.pop, inner.ask)

    def test_ranked(self):
        for structure in UNDOING:
            for seed in range(8):
                source, present = random.Random(seed), {}
                ranked = self.made(Ranked, structure)
                for _ in range(150):
                    if present and source.random() < 0.5:
                        del present[ranked.remove_first()]
                    else:
                        member = structure.member(source)
                        present[ranked.add(member, rank=source.randint(-2, 2))] = member
                    if len(present) <= 12:
                        self.check(ranked, structure, list(present.values()), source)

    def test_timed(self):
        for structure in UNDOING:
            for seed in range(8):
                source, present = random.Random(seed), {}
                timed = self.made(Timed, structure)
                for _ in range(150):
                    if source.random() < 0.5:
                        for number in timed.tick():
                            del present[number]
                    elif len(present) < 12:
                        member = structure.member(source)
                        until = timed.clock() + source.randint(1, 12)
                        present[timed.add(member, until=until)] = member
                    self.check(timed, structure, list(present.values()), source)

    def test_mending_with_a_new_structure(self):
        for made_class, more in ((Ranked, {"rank": 3}), (Timed, {"until": 9})):
            for structure in UNDOING:
                source, inner, present = random.Random(9), structure.made(), []
                collection = made_class(inner.push, inner.pop, inner.ask)
                for _ in range(6):
                    present.append(structure.member(source))
                    collection.add(present[-1], **more)
                with self.assertRaises(Exception):
                    collection.add(None, **more)
                self.assertIs(collection.torn, True)
                inner = structure.made()
                collection.mend(inner.push, inner.pop, inner.ask)
                for _ in range(10):
                    self.check(collection, structure, present, source)

    def test_answers(self):
        for structure in UNDOING:
            for seed in range(40):
                source, history, present, expected = random.Random(seed), [], {}, []
                for at in range(source.choice([1, 9, 64, 120])):
                    chosen = source.random()
                    if chosen < 0.4 and len(present) < 12:
                        present[at] = structure.member(source)
                        history.append(("add", present[at]))
                    elif chosen < 0.6 and present:
                        gone = source.choice(list(present))
                        del present[gone]
                        history.append(("remove", gone))
                    else:
                        history.append(("ask", structure.question(source)))
                        expected.append(structure.plain(list(present.values()), history[-1][1]))
                inner = structure.made()
                found = answers(inner.push, inner.pop, inner.ask, history)
                self.assertEqual(found, expected)
                pushes = [entry for entry in plan_answers(history) if entry[0] == "push"]
                pops = [entry for entry in plan_answers(history) if entry[0] == "pop"]
                self.assertEqual(len(pushes), len(pops))
                # All that was pushed is undone.
                question = structure.question(source)
                self.assertEqual(inner.ask(question), structure.plain([], question))

    def test_components_of_a_thousand_points(self):
        many = 1000
        unions = Unions(many)
        history = [("add", (point, point + 1)) for point in range(many - 1)]
        history += [("ask", ("size", 0)), ("remove", 499), ("ask", ("size", 0)), ("ask", ("same", 499, 500)),
                    ("remove", 0), ("ask", ("size", 0)), ("ask", ("groups",))]
        found = answers(unions.push, unions.pop, unions.ask, history)
        self.assertEqual(found, [1000, 500, False, 1, 3])


if __name__ == "__main__":
    unittest.main()
