"""The sections of the interface that have landed: names, places and the printed examples."""

import doctest
import inspect
import unittest

from oncebuilt import blocks, errors, plans, ranked, removal, steady

METHODS = {
    blocks.Blocks: ["of", "add", "add_all", "query", "members", "pairs", "sizes", "plan_add", "plan_query", "log",
                    "version", "branch", "__len__"],
    blocks.Version: ["query", "members", "pairs", "plan_query", "log", "__len__", "__repr__"],
    steady.Steady: ["add", "query", "members", "pairs", "plan_add", "plan_query", "log", "levels", "__len__"],
    removal.Cancelling: ["add", "remove", "query", "members", "pairs", "numbers", "plan_add", "plan_remove",
                         "plan_query", "log", "__len__"],
    removal.Dropping: ["add", "remove", "query", "members", "pairs", "numbers", "plan_add", "plan_remove",
                       "plan_query", "log", "__len__"],
    ranked.Ranked: ["add", "first", "remove_first", "query", "members", "pairs", "numbers", "stack", "plan_add",
                    "plan_remove", "log", "mend", "torn", "__len__"],
}

PLACES = {
    blocks.Blocks: "oncebuilt.blocks",
    blocks.Version: "oncebuilt.blocks",
    steady.Steady: "oncebuilt.steady",
    removal.Cancelling: "oncebuilt.removal",
    removal.Dropping: "oncebuilt.removal",
    ranked.Ranked: "oncebuilt.ranked",
}

FUNCTIONS = [plans.block_sizes, plans.total_built, plans.pieces]



def nothing(*values):
    """A callable of an empty collection, which is never called."""


EMPTY = blocks.Blocks(nothing, nothing, nothing)
EMPTY_STEADY = steady.Steady(nothing, nothing, nothing, nothing, nothing)
EMPTY_CANCELLING = removal.Cancelling(nothing, nothing, nothing, nothing)
EMPTY_DROPPING = removal.Dropping(nothing, nothing, nothing, nothing)
EMPTY_RANKED = ranked.Ranked(nothing, nothing, nothing)

# Each parameter with its kind: p by position or by name, k by name only, s all further positions.
PARAMETERS = [
    (plans.block_sizes, "many:p"),
    (plans.total_built, "many:p"),
    (plans.pieces, "begin:p end:p"),
    (blocks.Blocks, "build:p ask:p join:p zero:k"),
    (blocks.Blocks.of, "members:p build:p ask:p join:p zero:k"),
    (EMPTY.add, "member:p"),
    (EMPTY.add_all, "members:s"),
    (EMPTY.query, "question:p"),
    (EMPTY.version().query, "question:p"),
    (steady.Steady, "begin:p put:p seal:p ask:p join:p zero:k"),
    (EMPTY_STEADY.add, "member:p"),
    (EMPTY_STEADY.query, "question:p"),
    (removal.Cancelling, "build:p ask:p join:p unjoin:p zero:k"),
    (EMPTY_CANCELLING.add, "member:p"),
    (EMPTY_CANCELLING.remove, "number:p"),
    (EMPTY_CANCELLING.plan_remove, "number:p"),
    (EMPTY_CANCELLING.query, "question:p"),
    (removal.Dropping, "build:p ask:p join:p drop:p zero:k"),
    (EMPTY_DROPPING.add, "member:p"),
    (EMPTY_DROPPING.remove, "number:p"),
    (EMPTY_DROPPING.plan_remove, "number:p"),
    (EMPTY_DROPPING.query, "question:p"),
    (ranked.Ranked, "push:p pop:p ask:p"),
    (EMPTY_RANKED.add, "member:p rank:k"),
    (EMPTY_RANKED.query, "question:p"),
    (EMPTY_RANKED.mend, "push:p pop:p ask:p"),
    (EMPTY_RANKED.plan_remove, ""),
]

KINDS = {
    inspect.Parameter.POSITIONAL_OR_KEYWORD: "p",
    inspect.Parameter.KEYWORD_ONLY: "k",
    inspect.Parameter.VAR_POSITIONAL: "s",
}

EXAMPLES = {
    "oncebuilt.plans": """
>>> from oncebuilt.plans import block_sizes, pieces, total_built
>>> block_sizes(13)
[8, 4, 1]
>>> total_built(6)
11
>>> pieces(3, 14)
[(3, 1), (4, 4), (8, 4), (12, 2)]
""",
    "oncebuilt.blocks": """
>>> from oncebuilt.blocks import Blocks
>>> blocks = Blocks(lambda members: sum(members), lambda block, question: block * question, lambda one, other: one + other, zero=0)
>>> [blocks.add(member) for member in [5, 1, 4]]
[0, 1, 2]
>>> blocks.query(10)
100
>>> blocks.log()
[('build', (0,)), ('build', (0, 1)), ('build', (2,)), ('ask', (0, 1)), ('ask', (2,)), ('join', 2, 1)]
>>> blocks.plan_add()
[('build', (0, 1, 2, 3))]
""",
    "oncebuilt.steady": """
>>> from oncebuilt.steady import Steady
>>> steady = Steady(lambda: [], lambda draft, member: draft.append(member), lambda draft: sorted(draft), lambda block, question: block, lambda one, other: one + other)
>>> [steady.add(member) for member in "cab"]
[0, 1, 2]
>>> steady.levels()
[[(0,), (1,), (2,)]]
>>> steady.log()[-4:]
[('put', 1, 0), ('begin', 0), ('put', 0, 2), ('seal', 0)]
>>> steady.plan_add()
[('put', 1, 1), ('seal', 1), ('begin', 0), ('put', 0, 3), ('seal', 0)]
""",
    "oncebuilt.removal": """
>>> from oncebuilt.removal import Dropping
>>> plus = lambda one, other: one + other
>>> dropping = Dropping(tuple, lambda block, question: len(block), plus, lambda block, member: tuple([one for one in block if one != member]), zero=0)
>>> [dropping.add(member) for member in "abcdef"]
[0, 1, 2, 3, 4, 5]
>>> dropping.remove(4)
>>> dropping.plan_query()
[('ask', (0, 1, 2, 3)), ('ask', (5,)), ('join', 4, 1)]
>>> dropping.remove(1)
>>> dropping.plan_remove(0)
[('build', (2, 3)), ('build', (5,))]
""",
    # Like the example of the document, but with a structure of its own.
    "oncebuilt.ranked": """
>>> from oncebuilt.ranked import Ranked
>>> held = []
>>> ranked = Ranked(lambda member: held.append(member), lambda: held.pop(), lambda question: sorted(held))
>>> [ranked.add(member) for member in [6, 3, 5, 8]]
[0, 1, 2, 3]
>>> ranked.query(("rank",))
[3, 5, 6, 8]
>>> ranked.remove_first()
0
>>> ranked.stack()
[1, 2, 3]
>>> ranked.plan_remove()
[('pop', 3), ('pop', 2), ('pop', 1), ('push', 3), ('push', 2)]
""",
}


class Places(unittest.TestCase):
    def test_methods_are_defined_in_the_class_itself(self):
        for owner, names in METHODS.items():
            for name in names:
                self.assertIn(name, vars(owner), owner)
            self.assertEqual(vars(owner)["NAME"], owner.__name__)

    def test_classes_and_functions_are_defined_in_their_files(self):
        self.assertEqual(set(PLACES), set(METHODS))
        for owner, place in PLACES.items():
            self.assertEqual(owner.__module__, place)
        for function in FUNCTIONS:
            self.assertEqual(function.__module__, "oncebuilt.plans")
        for name in ("OnceError", "BadNumber", "BadHistory", "NoMember", "Empty", "Busy", "Torn", "NotTorn"):
            self.assertEqual(getattr(errors, name).__module__, "oncebuilt.errors")

    def test_parameters(self):
        for callable_, expected in PARAMETERS:
            found = [f"{one.name}:{KINDS[one.kind]}" for one in inspect.signature(callable_).parameters.values()]
            self.assertEqual(" ".join(found), expected, callable_)

    def test_zero_is_none_by_default(self):
        for callable_ in (blocks.Blocks, blocks.Blocks.of, steady.Steady, removal.Cancelling, removal.Dropping):
            self.assertIsNone(inspect.signature(callable_).parameters["zero"].default)

    def test_the_rank_is_zero_by_default(self):
        self.assertEqual(inspect.signature(EMPTY_RANKED.add).parameters["rank"].default, 0)


class Examples(unittest.TestCase):
    def test_printed_examples(self):
        for name, text in EXAMPLES.items():
            test = doctest.DocTestParser().get_doctest(text, {}, name, name, 0)
            self.assertGreater(len(test.examples), 0)
            result = doctest.DocTestRunner(verbose=False).run(test)
            self.assertEqual(result.failed, 0, name)


if __name__ == "__main__":
    unittest.main()
