"""The present members of a collection: a dict of them by their numbers, in ascending order.

Such a dict is replaced, never changed, so that pairs that are being yielded stay as they are.
"""

from oncebuilt.errors import Empty


def check_filled(held):
    """Raise Empty without members."""
    if len(held) == 0:
        raise Empty("there is no member")


def oldest(held):
    """Return the number of the oldest held member, None without members."""
    return next(iter(held), None)


def without(held, numbers):
    """Return the held members but for those with these numbers."""
    return {number: member for number, member in held.items() if number not in numbers}
