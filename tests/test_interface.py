"""The sections of the interface that have landed: names, places and the printed examples."""

import doctest
import inspect
import unittest

from oncebuilt import blocks, errors, plans

METHODS = {
    blocks.Blocks: ["of", "add", "add_all", "query", "members", "pairs", "sizes", "plan_add", "plan_query", "log",
                    "version", "branch", "__len__"],
    blocks.Version: ["query", "members", "pairs", "plan_query", "log", "__len__", "__repr__"],
}

FUNCTIONS = [plans.block_sizes, plans.total_built, plans.pieces]

EMPTY = blocks.Blocks(tuple, lambda block, question: block, lambda one, other: one + other)

# Each parameter with its kind: p by position or by name, k by name only, s all further positions.
PARAMETERS = [
    (plans.block_sizes, "many:p"),
    (plans.total_built, "many:p"),
    (plans.pieces, "begin:p end:p"),
    (blocks.Blocks, "build:p ask:p join:p zero:k"),
    (blocks.Blocks.of, "members:p build:p ask:p join:p zero:k"),
    (EMPTY.add, "member:p"),
    (EMPTY.add_all, "members:s"),
    (EMPTY.query, "question:p"),
    (EMPTY.version().query, "question:p"),
]

KINDS = {
    inspect.Parameter.POSITIONAL_OR_KEYWORD: "p",
    inspect.Parameter.KEYWORD_ONLY: "k",
    inspect.Parameter.VAR_POSITIONAL: "s",
}

EXAMPLES = {
    "oncebuilt.plans": """
>>> from oncebuilt.plans import block_sizes, pieces, total_built
>>> block_sizes(13)
[8, 4, 1]
>>> total_built(6)
11
>>> pieces(3, 14)
[(3, 1), (4, 4), (8, 4), (12, 2)]
""",
    "oncebuilt.blocks": """
>>> from oncebuilt.blocks import Blocks
>>> blocks = Blocks(lambda members: sum(members), lambda block, question: block * question, lambda one, other: one + other, zero=0)
>>> [blocks.add(member) for member in [5, 1, 4]]
[0, 1, 2]
>>> blocks.query(10)
100
>>> blocks.log()
[('build', (0,)), ('build', (0, 1)), ('build', (2,)), ('ask', (0, 1)), ('ask', (2,)), ('join', 2, 1)]
>>> blocks.plan_add()
[('build', (0, 1, 2, 3))]
""",
}


class Places(unittest.TestCase):
    def test_methods_are_defined_in_the_class_itself(self):
        for owner, names in METHODS.items():
            for name in names:
                self.assertIn(name, vars(owner), owner)
            self.assertEqual(vars(owner)["NAME"], owner.__name__)

    def test_classes_and_functions_are_defined_in_their_files(self):
        for owner in METHODS:
            self.assertEqual(owner.__module__, "oncebuilt.blocks")
        for function in FUNCTIONS:
            self.assertEqual(function.__module__, "oncebuilt.plans")
        for name in ("OnceError", "BadNumber", "BadHistory", "NoMember", "Empty", "Busy", "Torn", "NotTorn"):
            self.assertEqual(getattr(errors, name).__module__, "oncebuilt.errors")

    def test_parameters(self):
        for callable_, expected in PARAMETERS:
            found = [f"{one.name}:{KINDS[one.kind]}" for one in inspect.signature(callable_).parameters.values()]
            self.assertEqual(" ".join(found), expected, callable_)

    def test_zero_is_none_by_default(self):
        for callable_ in (blocks.Blocks, blocks.Blocks.of):
            self.assertIsNone(inspect.signature(callable_).parameters["zero"].default)


class Examples(unittest.TestCase):
    def test_printed_examples(self):
        for name, text in EXAMPLES.items():
            test = doctest.DocTestParser().get_doctest(text, {}, name, name, 0)
            self.assertGreater(len(test.examples), 0)
            result = doctest.DocTestRunner(verbose=False).run(test)
            self.assertEqual(result.failed, 0, name)


if __name__ == "__main__":
    unittest.main()
