"""Questions that are put to the parts of a row, as oncebuilt.building describes them."""


class Asker:
    """The callables by which one collection asks its parts and joins their answers."""

    def __init__(self, calls, ask, join, zero):
        self.calls = calls
        self.ask_call = ask
        self.join_call = join
        self.zero = zero

    def answer(self, parts, question, mark=()):
        """Ask the parts in their order, and join each further answer to those before it."""
        so_far = self.zero
        many = 0
        for numbers, block in parts:
            more = len(numbers)
            found = self.calls.run(("ask", *mark, numbers), self.ask_call, block, question)
            if many > 0:
                found = self.calls.run(("join", *mark, many, more), self.join_call, so_far, found)
            so_far = found
            many += more
        return so_far


def plan_answer(parts, mark=()):
    """Return the entries that asking the parts adds to the log."""
    entries = []
    many = 0
    for numbers, block in parts:
        more = len(numbers)
        entries.append(("ask", *mark, numbers))
        if many > 0:
            entries.append(("join", *mark, many, more))
        many += more
    return entries
