"""The calls of the user's callables that one collection makes."""

from oncebuilt.errors import Busy


class Calls:
    """The log of a collection, and whether one of its callables is running."""

    def __init__(self):
        self.entries = []
        self.running = False

    def check(self):
        """Raise Busy while a callable of the collection is running."""
        if self.running:
            raise Busy("a callable of this collection is running")

    def run(self, entry, action, *values):
        """Return what the action returns for the values, and log the entry."""
        self.running = True
        try:
            result = action(*values)
        finally:
            self.running = False
        # Only calls that have returned are logged, so this is not done if the action raises an error.
        self.entries.append(entry)
        return result
