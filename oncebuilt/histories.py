"""Whole histories of additions, removals and questions, which are answered with one outer structure.

The indexes at which a member is present are split into pieces. A walk goes over all indexes, in nodes
that are halved again and again, and a member is inserted while the walk is within one of its pieces: so
each member is inserted few times, and only the last insertion is ever undone.
"""

from oncebuilt.errors import BadHistory
from oncebuilt.outer import plan_pops, plan_pushes
from oncebuilt.plans import is_integer, pieces

WORDS = ("add", "remove", "ask")


def answers(push, pop, ask, history):
    """Return the list of the answers of a history, in the order of its questions."""
    entries = plan_answers(history)
    # The history is not read while callables run, since these might change it.
    passed = [entry[1] for entry in history]
    found = []
    for action, index in entries:
        if action == "push":
            push(passed[index])
        elif action == "pop":
            pop()
        else:
            found.append(ask(passed[index]))
    return found


def plan_answers(history):
    """Return the calls of the callables that answering a history makes."""
    ends = present_ends(history)
    asked = [entry[0] == "ask" for entry in history]
    entries = []
    visit(entries, members_by_nodes(ends), asked, 0, walk_size(len(history)))
    return entries


def present_ends(history):
    """Return the index up to which the member of each "add" is present, by the index of the "add".

    Raise BadHistory if the history is wrong.
    """
    if not isinstance(history, list):
        raise BadHistory(None)
    ends = {}
    present = {}
    for at, entry in enumerate(history):
        if not is_entry(entry, present):
            raise BadHistory(at)
        if entry[0] == "add":
            ends[at] = len(history)
            present[at] = True
        elif entry[0] == "remove":
            index = int(entry[1])
            ends[index] = at
            del present[index]
    return ends


def is_entry(entry, present):
    """Tell whether this is an entry of a history in which the "add" entries at these indexes are present."""
    if not isinstance(entry, tuple) or len(entry) != 2:
        return False
    word, passed = entry
    # Any object may stand there, so it is not compared before it is known to be a string.
    if not isinstance(word, str) or word not in WORDS:
        return False
    return word != "remove" or (is_integer(passed) and int(passed) in present)


def members_by_nodes(ends):
    """Return, by the nodes of the walk, the indexes of the members one of whose pieces is the node."""
    nodes = {}
    for index, end in ends.items():
        for piece in pieces(index, end):
            nodes.setdefault(piece, []).append(index)
    return nodes


def walk_size(length):
    """Return the least power of two that is not less than the length."""
    size = 1
    while size < length:
        size *= 2
    return size


def visit(entries, nodes, asked, first, size):
    """Append the entries of visiting a node; asked tells for each index whether it has a question."""
    if not any(asked[first:first + size]):
        return
    inserted = nodes.get((first, size), [])
    entries.extend(plan_pushes(inserted))
    if size == 1:
        entries.append(("ask", first))
    else:
        half = size // 2
        visit(entries, nodes, asked, first, half)
        visit(entries, nodes, asked, first + half, half)
    entries.extend(plan_pops(inserted))
