"""Point 12: the answers of whole histories, their plans, and wrong histories."""

import random
import unittest
from collections import Counter

from oncebuilt.errors import BadHistory, OnceError
from oncebuilt.histories import answers, plan_answers
from tests.helpers import ERRORS, Failure, OuterSpy, Untouchable, same_objects
from tests.kinds import NO_INTEGERS
from tests.models import dyadic


def run(spy, history):
    return answers(spy.push, spy.pop, spy.ask, history)


def searched(history):
    """The answers of an OuterSpy, found by looking for the members that are present at each question."""
    present, found = {}, []
    for at, (word, value) in enumerate(history):
        if word == "add":
            present[at] = value
        elif word == "remove":
            del present[value]
        else:
            found.append(OuterSpy().answer(list(present.values()), value))
    return found


def walked(history):
    """The plan of a history, found by following the document."""
    ends = {at: len(history) for at, (word, value) in enumerate(history) if word == "add"}
    ends.update((value, at) for at, (word, value) in enumerate(history) if word == "remove")
    split = {at: dyadic(at, end) for at, end in ends.items()}
    questions = [at for at, (word, value) in enumerate(history) if word == "ask"]

    def visit(first, size):
        if not any(first <= at < first + size for at in questions):
            return []
        here = [at for at in sorted(split) if (first, size) in split[at]]
        inner = [("ask", first)] if size == 1 else visit(first, size // 2) + visit(first + size // 2, size // 2)
        return [("push", at) for at in here] + inner + [("pop", at) for at in reversed(here)]

    size = 1
    while size < len(history):
        size *= 2
    return visit(0, size)


def some_history(source, many, removing=2, asking=2, adding=4):
    """A random history; its members are told apart by their indexes."""
    history, present = [], []
    for at in range(many):
        chosen = source.choices(["add", "remove", "ask"], [adding, removing if present else 0, asking])[0]
        if chosen == "add":
            present.append(at)
            history.append(("add", f"m{at}"))
        elif chosen == "remove":
            history.append(("remove", present.pop(source.randrange(len(present)))))
        else:
            history.append(("ask", source.choice(["q", None, 7])))
    return history


def called_as(entries, history):
    """The calls of the callables that these entries stand for."""
    found = []
    for action, index in entries:
        found.append((action, () if action == "pop" else (history[index][1],)))
    return found


class Anything(unittest.TestCase):
    def check(self, history):
        """The answers are found by searching, the plan by walking, and the calls are the planned ones."""
        kept = list(history)
        expected = walked(history)
        planned = plan_answers(history)
        self.assertEqual(planned, expected)
        spy = OuterSpy()
        self.assertEqual(run(spy, history), searched(history))
        self.assertEqual(spy.calls, called_as(expected, history))
        self.assertEqual(spy.inside, [])
        self.assertEqual(history, kept)
        self.assertEqual(plan_answers(history), expected)


class ByHand(Anything):
    def check_plan(self, history, entries):
        self.assertEqual(plan_answers(history), entries)
        self.check(history)

    def test_the_example(self):
        history = [("add", "a"), ("add", "b"), ("ask", "q"), ("remove", 0), ("ask", "r")]
        self.check_plan(history, [
            ("push", 1), ("push", 0), ("ask", 2), ("pop", 0), ("pop", 1), ("push", 1), ("ask", 4), ("pop", 1),
        ])

    def test_the_empty_history(self):
        self.check_plan([], [])
        spy = OuterSpy()
        self.assertEqual((run(spy, []), spy.calls), ([], []))

    def test_one_entry(self):
        self.check_plan([("ask", "q")], [("ask", 0)])
        self.check_plan([("add", "a")], [])

    def test_two_entries(self):
        self.check_plan([("add", "a"), ("ask", "q")], [("push", 0), ("ask", 1), ("pop", 0)])
        self.check_plan([("ask", "q"), ("add", "a")], [("ask", 0)])
        self.check_plan([("ask", "q"), ("ask", "r")], [("ask", 0), ("ask", 1)])
        self.check_plan([("add", "a"), ("remove", 0)], [])

    def test_a_member_of_the_whole_history_is_pushed_once(self):
        for many in (2, 4, 8, 64):
            history = [("add", "a")] + [("ask", at) for at in range(1, many)]
            self.check_plan(history, [("push", 0), *[("ask", at) for at in range(1, many)], ("pop", 0)])

    def test_members_of_one_node_are_in_the_order_of_their_indexes(self):
        history = [("add", name) for name in "abc"] + [("ask", "q"), ("ask", "q"), ("remove", 1), ("ask", "q")]
        # The pieces of 0 are (0, 4), (4, 2) and (6, 1), those of 1 are (1, 1), (2, 2) and (4, 1), and those
        # of 2 are (2, 2), (4, 2) and (6, 1).
        self.check_plan(history, [
            ("push", 0), ("push", 1), ("push", 2), ("ask", 3), ("pop", 2), ("pop", 1), ("pop", 0),
            ("push", 0), ("push", 2), ("push", 1), ("ask", 4), ("pop", 1), ("pop", 2), ("pop", 0),
            ("push", 0), ("push", 2), ("ask", 6), ("pop", 2), ("pop", 0),
        ])

    def test_nodes_without_questions_are_not_visited(self):
        history = [("add", name) for name in "abcdefgh"] + [("ask", "q")] + [("add", "x")] * 7
        # 0 is pushed for (0, 16), the others for (8, 8); their pieces below (0, 8) are left out.
        self.check_plan(history, [
            *[("push", at) for at in range(8)], ("ask", 8), *[("pop", at) for at in reversed(range(8))],
        ])


class Random(Anything):
    def test_small_histories(self):
        for seed in range(300):
            source = random.Random(seed)
            self.check(some_history(source, seed % 40, removing=source.randint(0, 5), asking=source.randint(0, 5)))

    def test_all_histories_of_three_words(self):
        words = ["add", "ask", "remove"]
        for length in range(7):
            for code in range(3 ** length):
                history, present = [], []
                for at in range(length):
                    word = words[code // 3 ** at % 3]
                    if word == "remove" and not present:
                        break
                    if word == "add":
                        present.append(at)
                    history.append((word, present.pop(0) if word == "remove" else f"m{at}"))
                else:
                    self.check(history)

    def test_histories_without_questions(self):
        for seed in range(20):
            history = some_history(random.Random(seed), 10 * seed, asking=0)
            spy = OuterSpy()
            self.assertEqual((plan_answers(history), run(spy, history), spy.calls), ([], [], []))

    def test_histories_of_questions_alone(self):
        for many in (1, 2, 3, 8, 100):
            history = [("ask", at) for at in range(many)]
            spy = OuterSpy()
            self.assertEqual(run(spy, history), [(at, ()) for at in range(many)])
            self.assertEqual(spy.calls, [("ask", (at,)) for at in range(many)])

    def test_long_histories(self):
        for seed, many in enumerate((1000, 1023, 1024, 1025, 2000, 2000, 2100)):
            source = random.Random(seed)
            history = some_history(source, many, removing=source.choice([1, 3]), asking=source.choice([1, 4]))
            planned = plan_answers(history)
            spy = OuterSpy()
            self.assertEqual(run(spy, history), searched(history))
            self.assertEqual(spy.calls, called_as(planned, history))
            if many < 1100:
                self.assertEqual(planned, walked(history))
            # A member is present in at most two nodes of each size.
            most = max(Counter(planned).values())
            self.assertLessEqual(most, 2 * many.bit_length())

    def test_removals_in_the_order_of_addition_and_against_it(self):
        for backwards in (False, True):
            for many in (1, 5, 40):
                order = list(range(many))[::-1] if backwards else list(range(many))
                history = [("add", f"m{at}") for at in range(many)]
                for at in order:
                    history.extend([("ask", at), ("remove", at)])
                self.check(history + [("ask", "last")])


class AnyObjects(unittest.TestCase):
    def test_members_questions_and_answers_are_passed_on_untouched(self):
        members, questions = [Untouchable() for _ in range(3)], [Untouchable() for _ in range(3)]
        history = []
        for member, question in zip(members, questions):
            history.extend([("add", member), ("ask", question)])
        history.append(("remove", 2))
        history.append(("ask", questions[0]))
        made, pushed, asked = [], [], []

        def ask(question):
            asked.append(question)
            made.append(Untouchable())
            return made[-1]

        found = answers(pushed.append, lambda: Untouchable(), ask, history)
        self.assertTrue(same_objects(found, made))
        self.assertTrue(same_objects(asked, [*questions, questions[0]]))
        self.assertTrue(all(any(one is member for member in members) for one in pushed))
        self.assertEqual(len(plan_answers(history)), len(pushed) * 2 + 4)

    def test_none_and_equal_objects(self):
        history = [("add", None), ("add", None), ("add", [1]), ("add", [1]), ("ask", None), ("remove", 1),
                   ("remove", 2), ("ask", None)]
        held = []
        found = answers(held.append, held.pop, lambda question: list(held), history)
        self.assertEqual([len(one) for one in found], [4, 2])
        self.assertEqual(sum(one is None for one in found[1]), 1)
        self.assertTrue(any(one is history[3][1] for one in found[1]))

    def test_what_push_and_pop_return_is_ignored(self):
        history = some_history(random.Random(1), 60)
        for returned in (None, False, True, Untouchable()):
            spy = OuterSpy()

            def push(member, /):
                spy.push(member)
                return returned

            def pop():
                spy.pop()
                return returned

            def ask(question, /):
                return spy.ask(question)

            self.assertEqual(answers(push, pop, ask, history), searched(history))

    def test_returned_lists_are_new(self):
        history = some_history(random.Random(2), 30)
        plan_answers(history).clear()
        planned = plan_answers(history)
        planned.append("spoiled")
        self.assertEqual(plan_answers(history), planned[:-1])
        same = [1]
        found = answers(lambda member: None, lambda: None, lambda question: same, history)
        self.assertIs(type(found), list)
        self.assertTrue(all(one is same for one in found))
        self.assertIsNot(run(OuterSpy(), []), run(OuterSpy(), []))

    def test_by_name(self):
        history = [("add", "a"), ("ask", "q")]
        spy = OuterSpy()
        self.assertEqual(answers(history=history, ask=spy.ask, pop=spy.pop, push=spy.push), searched(history))
        self.assertEqual(plan_answers(history=history), [("push", 0), ("ask", 1), ("pop", 0)])

    def test_lists_and_tuples_of_classes_of_their_own(self):
        class OwnList(list):
            pass

        class OwnTuple(tuple):
            pass

        class OwnInt(int):
            pass

        history = OwnList([OwnTuple(("add", "a")), ("add", "b"), OwnTuple(("remove", OwnInt(1))), ("ask", "q")])
        self.assertEqual(run(OuterSpy(), history), searched([tuple(entry) for entry in history]))

    def test_a_callable_that_changes_the_history(self):
        history = [("add", "a"), ("ask", "q"), ("add", "b"), ("ask", "r"), ("remove", 0), ("ask", "s")]
        kept, spy = list(history), OuterSpy()
        spy.hook = lambda name, values: history.clear()
        self.assertEqual(run(spy, history), searched(kept))

    def test_answers_within_answers(self):
        history = some_history(random.Random(3), 20)
        spy, found = OuterSpy(), []
        spy.hook = lambda name, values: found.append(run(OuterSpy(), history))
        self.assertEqual(run(spy, history), searched(history))
        self.assertTrue(all(one == searched(history) for one in found) and len(found) == len(spy.calls))


class WhenACallableFails(unittest.TestCase):
    def test_the_error_leaves_the_call_at_once(self):
        for seed in range(20):
            history = some_history(random.Random(seed), 3 + seed)
            called = called_as(plan_answers(history), history)
            for at in range(len(called)):
                for late in (False, True):
                    spy, error = OuterSpy(), Failure()
                    spy.late = late
                    spy.fail(at, error)
                    with self.assertRaises(Failure) as caught:
                        run(spy, history)
                    self.assertIs(caught.exception, error)
                    # The structure is left as it is: nothing is undone.
                    self.assertEqual(spy.calls, called[:at + 1])

    def test_any_error(self):
        history = [("add", "a"), ("ask", "q")]
        for error in [*ERRORS, BadHistory(3)]:
            for at in range(3):
                spy = OuterSpy()
                spy.fail(at, error)
                with self.assertRaises(type(error)) as caught:
                    run(spy, history)
                self.assertIs(caught.exception, error)


class WrongHistories(unittest.TestCase):
    def check(self, history, index):
        """Both functions raise BadHistory with this index, and nothing is called."""
        spy = OuterSpy()
        for action in (lambda: run(spy, history), lambda: plan_answers(history)):
            with self.assertRaises(BadHistory) as caught:
                action()
            if index is None:
                self.assertIsNone(caught.exception.index)
            else:
                self.assertIs(type(caught.exception.index), int)
                self.assertEqual(caught.exception.index, index)
        self.assertEqual(spy.calls, [])

    def check_entry(self, entry):
        """The entry is wrong wherever it stands; those behind it do not matter."""
        good = [("add", "a"), ("ask", "q"), ("add", "b"), ("remove", 0), ("ask", "r")]
        for at in range(len(good) + 1):
            self.check(good[:at] + [entry], at)
            self.check(good[:at] + [entry] + good[at:], at)
            self.check(good[:at] + [entry, None, entry], at)

    def test_what_is_no_list(self):
        for history in [None, (), (("ask", "q"),), "", "ask", {}, {0: ("ask", "q")}, set(), 0, 5, True, object(),
                        iter([]), list, Untouchable(), b"ask", 1.5, range(3)]:
            self.check(history, None)

    def test_entries_that_are_no_tuples(self):
        for entry in [None, 0, "add", "ask", ["add", "a"], ["ask", "q"], {"add": 1}, {"ask", "q"}, object(), tuple,
                      Untouchable(), b"ask", 1.5, ("ask", "q").__iter__()]:
            self.check_entry(entry)

    def test_entries_of_a_wrong_length(self):
        for entry in [(), ("add",), ("ask",), ("remove",), ("add", "a", "b"), ("ask", "q", None), ("remove", 0, 0),
                      ("add", "a", None, None)]:
            self.check_entry(entry)

    def test_entries_of_a_wrong_word(self):
        for word in ["", "Add", "ADD", "adds", "ad", " add", "add ", "push", "pop", "query", "tick", "asks", "removed",
                     b"add", b"ask", None, 0, 1, True, ("add",), ["add"], {"add"}, {}, object(), Untouchable(), str,
                     1.5, ("ask", "q")]:
            for value in (0, "x", None):
                self.check_entry((word, value))

    def test_a_removal_of_what_is_no_earlier_addition(self):
        #          0           1           2           3              4
        history = [("add", "a"), ("ask", "q"), ("add", "b"), ("remove", 2), ("ask", "q")]
        for index in (1, 3, 4, 5, 6, 7, 100, 10 ** 30, -1, -5, -6, -10 ** 30, 10 ** 100):
            self.check([*history, ("remove", index)], 5)
            self.check([*history, ("remove", index), ("add", "c"), ("add", "d")], 5)
        self.check([*history, ("remove", 2)], 5)
        self.assertEqual(len(run(OuterSpy(), [*history, ("remove", 0)])), 2)

    def test_a_removal_of_what_was_removed_already(self):
        self.check([("add", "a"), ("remove", 0), ("remove", 0)], 2)
        self.check([("add", "a"), ("add", "b"), ("remove", 0), ("add", "a"), ("remove", 0), ("ask", "q")], 4)

    def test_a_removal_at_the_beginning(self):
        for index in (0, 1, -1):
            self.check([("remove", index)], 0)
            self.check([("remove", index), ("add", "a")], 0)

    def test_an_index_that_is_no_integer(self):
        # Two additions are there, so that no boolean and no float is wrong because of its value.
        for index in [*NO_INTEGERS, 0.0, 1.0, "0", b"0", (0,), [0], None]:
            self.check([("add", "a"), ("add", "b"), ("remove", index)], 2)
            self.check([("add", "a"), ("add", "b"), ("ask", "q"), ("remove", index), ("ask", "q")], 3)

    def test_the_first_wrong_entry_is_told(self):
        history = [("add", "a"), ("remove", 1), ("remove", True), None, ()]
        self.check(history, 1)
        self.check(history[:1] + history[2:], 1)
        self.check(history[:1] + history[3:], 1)
        self.check(history[3:], 0)
        self.check([("ask", at) for at in range(1999)] + [None], 1999)

    def test_a_wrong_history_is_not_changed(self):
        history = [("add", "a"), ["ask", "q"]]
        self.check(history, 1)
        self.assertEqual(history, [("add", "a"), ["ask", "q"]])

    def test_it_is_a_value_error(self):
        self.assertTrue(issubclass(BadHistory, OnceError) and issubclass(OnceError, ValueError))
        with self.assertRaises(ValueError):
            plan_answers(None)


if __name__ == "__main__":
    unittest.main()
