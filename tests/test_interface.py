"""The interface: names, places, parameters and the printed examples."""

import doctest
import inspect
import unittest

from oncebuilt import blocks, errors, histories, plans, ranked, removal, steady, structures, sums, timed

METHODS = {
    blocks.Blocks: ["of", "add", "add_all", "query", "members", "pairs", "sizes", "plan_add", "plan_query", "log",
                    "version", "branch", "__len__"],
    blocks.Version: ["query", "members", "pairs", "plan_query", "log", "__len__", "__repr__"],
    steady.Steady: ["add", "query", "members", "pairs", "plan_add", "plan_query", "log", "levels", "__len__"],
    removal.Cancelling: ["add", "remove", "query", "members", "pairs", "numbers", "plan_add", "plan_remove",
                         "plan_query", "log", "__len__"],
    removal.Dropping: ["add", "remove", "query", "members", "pairs", "numbers", "plan_add", "plan_remove",
                       "plan_query", "log", "__len__"],
    ranked.Ranked: ["add", "first", "remove_first", "query", "members", "pairs", "numbers", "stack", "plan_add",
                    "plan_remove", "log", "mend", "torn", "__len__"],
    timed.Timed: ["add", "tick", "clock", "query", "members", "pairs", "numbers", "stack", "plan_add", "plan_tick",
                  "log", "mend", "torn", "LAST", "__len__"],
    sums.TwoStacks: ["add", "remove_oldest", "total", "members", "pairs", "numbers", "plan_add", "plan_remove",
                     "plan_total", "log", "__len__"],
    sums.EvenSums: ["add", "remove_oldest", "total", "members", "pairs", "numbers", "plan_add", "plan_remove",
                    "plan_total", "log", "__len__"],
    structures.Unions: ["push", "pop", "ask"],
    structures.Span: ["push", "pop", "ask"],
}

PLACES = {
    blocks.Blocks: "oncebuilt.blocks",
    blocks.Version: "oncebuilt.blocks",
    steady.Steady: "oncebuilt.steady",
    removal.Cancelling: "oncebuilt.removal",
    removal.Dropping: "oncebuilt.removal",
    ranked.Ranked: "oncebuilt.ranked",
    timed.Timed: "oncebuilt.timed",
    sums.TwoStacks: "oncebuilt.sums",
    sums.EvenSums: "oncebuilt.sums",
    structures.Unions: "oncebuilt.structures",
    structures.Span: "oncebuilt.structures",
}

COLLECTIONS = [owner for owner in PLACES if owner not in (structures.Unions, structures.Span)]

FUNCTIONS = {
    plans: ["block_sizes", "total_built", "pieces"],
    histories: ["answers", "plan_answers"],
    structures: ["sorted_block", "count_below", "lines_block", "least_at"],
}


def nothing(*values):
    """A callable of an empty collection, which is never called."""


EMPTY = blocks.Blocks(nothing, nothing, nothing)
EMPTY_STEADY = steady.Steady(nothing, nothing, nothing, nothing, nothing)
EMPTY_CANCELLING = removal.Cancelling(nothing, nothing, nothing, nothing)
EMPTY_DROPPING = removal.Dropping(nothing, nothing, nothing, nothing)
EMPTY_RANKED = ranked.Ranked(nothing, nothing, nothing)
EMPTY_TIMED = timed.Timed(nothing, nothing, nothing)
EMPTY_SUMS = [sums.TwoStacks(nothing), sums.EvenSums(nothing)]

# Each parameter with its kind: p by position or by name, k by name only, s all further positions.
PARAMETERS = [
    (plans.block_sizes, "many:p"),
    (plans.total_built, "many:p"),
    (plans.pieces, "begin:p end:p"),
    (blocks.Blocks, "build:p ask:p join:p zero:k"),
    (blocks.Blocks.of, "members:p build:p ask:p join:p zero:k"),
    (EMPTY.add, "member:p"),
    (EMPTY.add_all, "members:s"),
    (EMPTY.query, "question:p"),
    (EMPTY.version().query, "question:p"),
    (steady.Steady, "begin:p put:p seal:p ask:p join:p zero:k"),
    (EMPTY_STEADY.add, "member:p"),
    (EMPTY_STEADY.query, "question:p"),
    (removal.Cancelling, "build:p ask:p join:p unjoin:p zero:k"),
    (EMPTY_CANCELLING.add, "member:p"),
    (EMPTY_CANCELLING.remove, "number:p"),
    (EMPTY_CANCELLING.plan_remove, "number:p"),
    (EMPTY_CANCELLING.query, "question:p"),
    (removal.Dropping, "build:p ask:p join:p drop:p zero:k"),
    (EMPTY_DROPPING.add, "member:p"),
    (EMPTY_DROPPING.remove, "number:p"),
    (EMPTY_DROPPING.plan_remove, "number:p"),
    (EMPTY_DROPPING.query, "question:p"),
    (ranked.Ranked, "push:p pop:p ask:p"),
    (EMPTY_RANKED.add, "member:p rank:k"),
    (EMPTY_RANKED.query, "question:p"),
    (EMPTY_RANKED.mend, "push:p pop:p ask:p"),
    (EMPTY_RANKED.plan_remove, ""),
    (timed.Timed, "push:p pop:p ask:p"),
    (EMPTY_TIMED.add, "member:p until:k"),
    (EMPTY_TIMED.tick, ""),
    (EMPTY_TIMED.clock, ""),
    (EMPTY_TIMED.plan_add, ""),
    (EMPTY_TIMED.plan_tick, ""),
    (EMPTY_TIMED.query, "question:p"),
    (EMPTY_TIMED.mend, "push:p pop:p ask:p"),
    (histories.answers, "push:p pop:p ask:p history:p"),
    (histories.plan_answers, "history:p"),
    (sums.TwoStacks, "join:p zero:k"),
    (sums.EvenSums, "join:p zero:k"),
    *[(empty.add, "member:p") for empty in EMPTY_SUMS],
    *[(empty.remove_oldest, "") for empty in EMPTY_SUMS],
    *[(empty.total, "") for empty in EMPTY_SUMS],
    *[(empty.plan_add, "") for empty in EMPTY_SUMS],
    *[(empty.plan_remove, "") for empty in EMPTY_SUMS],
    *[(empty.plan_total, "") for empty in EMPTY_SUMS],
    (structures.sorted_block, "integers:p"),
    (structures.count_below, "block:p bound:p"),
    (structures.lines_block, "lines:p"),
    (structures.least_at, "block:p x:p"),
    (structures.Unions, "many:p"),
    (structures.Unions(1).push, "pair:p"),
    (structures.Unions(1).pop, ""),
    (structures.Unions(1).ask, "question:p"),
    (structures.Span, ""),
    (structures.Span().push, "integer:p"),
    (structures.Span().pop, ""),
    (structures.Span().ask, "question:p"),
]

KINDS = {
    inspect.Parameter.POSITIONAL_OR_KEYWORD: "p",
    inspect.Parameter.KEYWORD_ONLY: "k",
    inspect.Parameter.VAR_POSITIONAL: "s",
}

EXAMPLES = {
    "oncebuilt.plans": """
>>> from oncebuilt.plans import block_sizes, pieces, total_built
>>> block_sizes(13)
[8, 4, 1]
>>> total_built(6)
11
>>> pieces(3, 14)
[(3, 1), (4, 4), (8, 4), (12, 2)]
""",
    "oncebuilt.blocks": """
>>> from oncebuilt.blocks import Blocks
>>> blocks = Blocks(lambda members: sum(members), lambda block, question: block * question, lambda one, other: one + other, zero=0)
>>> [blocks.add(member) for member in [5, 1, 4]]
[0, 1, 2]
>>> blocks.query(10)
100
>>> blocks.log()
[('build', (0,)), ('build', (0, 1)), ('build', (2,)), ('ask', (0, 1)), ('ask', (2,)), ('join', 2, 1)]
>>> blocks.plan_add()
[('build', (0, 1, 2, 3))]
""",
    "oncebuilt.steady": """
>>> from oncebuilt.steady import Steady
>>> steady = Steady(lambda: [], lambda draft, member: draft.append(member), lambda draft: sorted(draft), lambda block, question: block, lambda one, other: one + other)
>>> [steady.add(member) for member in "cab"]
[0, 1, 2]
>>> steady.levels()
[[(0,), (1,), (2,)]]
>>> steady.log()[-4:]
[('put', 1, 0), ('begin', 0), ('put', 0, 2), ('seal', 0)]
>>> steady.plan_add()
[('put', 1, 1), ('seal', 1), ('begin', 0), ('put', 0, 3), ('seal', 0)]
""",
    "oncebuilt.removal": """
>>> from oncebuilt.removal import Dropping
>>> plus = lambda one, other: one + other
>>> dropping = Dropping(tuple, lambda block, question: len(block), plus, lambda block, member: tuple([one for one in block if one != member]), zero=0)
>>> [dropping.add(member) for member in "abcdef"]
[0, 1, 2, 3, 4, 5]
>>> dropping.remove(4)
>>> dropping.plan_query()
[('ask', (0, 1, 2, 3)), ('ask', (5,)), ('join', 4, 1)]
>>> dropping.remove(1)
>>> dropping.plan_remove(0)
[('build', (2, 3)), ('build', (5,))]
""",
    "oncebuilt.ranked": """
>>> from oncebuilt.ranked import Ranked
>>> from oncebuilt.structures import Span
>>> span = Span()
>>> ranked = Ranked(lambda member: span.push(member), lambda: span.pop(), lambda question: span.ask(question))
>>> [ranked.add(member) for member in [6, 3, 5, 8]]
[0, 1, 2, 3]
>>> ranked.query(("rank",))
3
>>> ranked.remove_first()
0
>>> ranked.stack()
[1, 2, 3]
>>> ranked.plan_remove()
[('pop', 3), ('pop', 2), ('pop', 1), ('push', 3), ('push', 2)]
""",
    "oncebuilt.timed": """
>>> from oncebuilt.timed import Timed
>>> held = []
>>> timed = Timed(lambda member: held.append(member), lambda: held.pop(), lambda question: sorted(held))
>>> [timed.add("a", until=4), timed.add("b", until=1)]
[0, 1]
>>> timed.tick()
[1]
>>> timed.log()
[('push', 0), ('push', 1), ('pop', 1), ('pop', 0), ('push', 0)]
>>> timed.plan_tick()
[('pop', 0), ('push', 0)]
""",
    "oncebuilt.histories": """
>>> from oncebuilt.histories import answers, plan_answers
>>> from oncebuilt.structures import Unions
>>> unions = Unions(3)
>>> history = [("add", (0, 1)), ("add", (1, 2)), ("ask", ("same", 0, 2)), ("remove", 0), ("ask", ("same", 0, 2))]
>>> answers(lambda member: unions.push(member), lambda: unions.pop(), lambda question: unions.ask(question), history)
[True, False]
>>> plan_answers(history)
[('push', 1), ('push', 0), ('ask', 2), ('pop', 0), ('pop', 1), ('push', 1), ('ask', 4), ('pop', 1)]
""",
    "oncebuilt.sums": """
>>> from oncebuilt.sums import TwoStacks
>>> stacks = TwoStacks(lambda one, other: one + other, zero="")
>>> [stacks.add(member) for member in "abc"]
[0, 1, 2]
>>> stacks.remove_oldest()
0
>>> stacks.total()
'bc'
>>> stacks.log()
[('join', (0, 1), (1, 2)), ('join', (0, 2), (2, 3)), ('join', (1, 2), (2, 3)), ('join', (0, 1), (1, 3))]
>>> from oncebuilt.sums import EvenSums
>>> even = EvenSums(lambda one, other: one + other)
>>> [even.add(member) for member in "abcd"]
[0, 1, 2, 3]
>>> even.log()
[('join', (1, 2), (2, 3)), ('join', (1, 2), (2, 3))]
>>> even.plan_remove()
[]
>>> even.remove_oldest()
0
>>> even.plan_total()
[('join', (1, 3), (3, 4))]
""",
    "oncebuilt.structures": """
>>> from oncebuilt.structures import count_below, least_at, lines_block, sorted_block
>>> least_at(lines_block([(0, 4), (1, 0), (-1, 9)]), 3)
3
>>> count_below(sorted_block([7, 2, 2, 5]), 5)
2
""",
}


class Places(unittest.TestCase):
    def test_methods_are_defined_in_the_class_itself(self):
        for owner, names in METHODS.items():
            for name in names:
                self.assertIn(name, vars(owner), owner)

    def test_each_class_of_collections_has_its_name(self):
        self.assertEqual(len(COLLECTIONS), 9)
        for owner in COLLECTIONS:
            self.assertEqual(vars(owner)["NAME"], owner.__name__)
            self.assertIn("__repr__", vars(owner))
        for empty in (EMPTY, EMPTY.version(), EMPTY_STEADY, EMPTY_CANCELLING, EMPTY_DROPPING, EMPTY_RANKED, EMPTY_TIMED,
                      *EMPTY_SUMS):
            self.assertEqual(repr(empty), f"{empty.NAME}(0)")
            self.assertFalse(empty)

    def test_classes_and_functions_are_defined_in_their_files(self):
        self.assertEqual(set(PLACES), set(METHODS))
        for owner, place in PLACES.items():
            self.assertEqual(owner.__module__, place)
        for module, names in FUNCTIONS.items():
            for name in names:
                self.assertEqual(getattr(module, name).__module__, module.__name__)
        for name in ("OnceError", "BadNumber", "BadHistory", "NoMember", "Empty", "Busy", "Torn", "NotTorn"):
            self.assertEqual(getattr(errors, name).__module__, "oncebuilt.errors")

    def test_parameters(self):
        for callable_, expected in PARAMETERS:
            found = [f"{one.name}:{KINDS[one.kind]}" for one in inspect.signature(callable_).parameters.values()]
            self.assertEqual(" ".join(found), expected, callable_)

    def test_zero_is_none_by_default(self):
        for callable_ in (blocks.Blocks, blocks.Blocks.of, steady.Steady, removal.Cancelling, removal.Dropping,
                          sums.TwoStacks, sums.EvenSums):
            self.assertIsNone(inspect.signature(callable_).parameters["zero"].default)

    def test_the_rank_is_zero_by_default(self):
        self.assertEqual(inspect.signature(EMPTY_RANKED.add).parameters["rank"].default, 0)

    def test_until_has_no_default(self):
        until = inspect.signature(EMPTY_TIMED.add).parameters["until"]
        self.assertIs(until.default, inspect.Parameter.empty)


class Examples(unittest.TestCase):
    def test_printed_examples(self):
        for name, text in EXAMPLES.items():
            test = doctest.DocTestParser().get_doctest(text, {}, name, name, 0)
            self.assertGreater(len(test.examples), 0)
            result = doctest.DocTestRunner(verbose=False).run(test)
            self.assertEqual(result.failed, 0, name)


if __name__ == "__main__":
    unittest.main()
