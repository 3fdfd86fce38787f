"""The outer structure of a collection, which undoes only its last insertion."""

from oncebuilt.calls import Calls
from oncebuilt.errors import NotTorn, Torn


class Outer:
    """The callables of one collection that insert, undo and ask, and what is inserted."""

    def __init__(self, push, pop, ask):
        self.calls = Calls()
        self.push_call = push
        self.pop_call = pop
        self.ask_call = ask
        # The numbers of the inserted members, the first inserted one first; replaced, never changed.
        self.order = []
        self.broken = False

    def check(self):
        """Raise Busy while a callable of the collection is running, and Torn if the collection is torn."""
        self.calls.check()
        if self.broken:
            raise Torn("push or pop has raised an error, and the collection is not mended")

    def answer(self, question):
        """Return the answer of what is inserted."""
        return self.calls.run(("ask",), self.ask_call, question)

    def change(self, entries, held):
        """Make the calls of these entries, which push and pop held members."""
        self.follow(entries, held)
        self.order = changed_order(self.order, entries)

    def restore(self, push, pop, ask, held):
        """Take callables of an empty outer structure, and push what was inserted before the error."""
        self.calls.check()
        if not self.broken:
            raise NotTorn("the collection is not torn")
        self.push_call = push
        self.pop_call = pop
        self.ask_call = ask
        self.follow(plan_pushes(self.order), held)

    def follow(self, entries, held):
        """Make the calls of these entries; the collection is torn afterwards if one raises an error."""
        failed = True
        try:
            for action, number in entries:
                if action == "push":
                    self.calls.run((action, number), self.push_call, held[number])
                else:
                    self.calls.run((action, number), self.pop_call)
            failed = False
        finally:
            self.broken = failed


def plan_pushes(numbers):
    """Return the entries of pushing the members with these numbers, in this order."""
    return [("push", number) for number in numbers]


def plan_pops(numbers):
    """Return the entries of popping the members with these numbers, the last ones of the stack."""
    return [("pop", number) for number in reversed(numbers)]


def changed_order(order, entries):
    """Return the stack after the calls of these entries."""
    changed = list(order)
    for action, number in entries:
        if action == "push":
            changed.append(number)
        else:
            changed.pop()
    return changed
