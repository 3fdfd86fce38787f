"""Comparisons of any collection with its model."""

import unittest


class AnyCollection(unittest.TestCase):
    def check_state(self, collection, model):
        """Compare what can be read at any time, and the length, with the model."""
        pairs = list(model.present.items())
        self.assertEqual(collection.members(), model.members())
        self.assertEqual(list(collection.pairs()), pairs)
        self.assertEqual(len(collection), len(pairs))
        self.assertEqual(bool(collection), len(pairs) > 0)
        name = type(collection).__name__
        self.assertEqual((repr(collection), str(collection)), (f"{name}({len(pairs)})",) * 2)
        self.assertEqual((collection.NAME, type(collection).NAME), (name, name))

    def check_operation(self, kind, spy, collection, model, operation):
        """Do an operation; its result, its plan, its calls and its effect are those of the model."""
        log, calls = collection.log(), len(spy.calls)
        planned = model.plan(operation)
        self.assertEqual(kind.plan(collection, operation), planned, operation)
        self.assertEqual((collection.log(), len(spy.calls)), (log, calls))
        expected = kind.result(spy, model, operation)
        self.assertEqual(kind.apply(collection, operation), expected, operation)
        model.advance(operation)
        self.assertEqual(collection.log(), log + planned, operation)
        self.assertEqual(spy.names()[calls:], [entry[0] for entry in planned])
        self.check_state(collection, model)
        if hasattr(collection, "numbers"):
            self.assertEqual(collection.numbers(), list(model.present))
        if kind.outer:
            self.check_whole(kind, spy, collection, model)

    def check_whole(self, kind, spy, collection, model):
        """Compare an outer structure, and what its collection tells when it is not torn, with the model."""
        self.assertIs(collection.torn, False)
        self.assertEqual(collection.stack(), model.stack)
        self.assertEqual(spy.inside, [model.present[number] for number in model.stack])
        self.assertEqual(kind.moment(collection), kind.expected_moment(model))
