"""Plain computations of what the ready-made structures answer."""


def count_less(integers, bound):
    return sum(1 for one in integers if one < bound)


def least_value(lines, x):
    return min(a * x + b for a, b in lines)


def components(many, pairs):
    """The components of the points 0 to many - 1, a list that has for each point the list of its component."""
    found = [[point] for point in range(many)]
    for a, b in pairs:
        if found[a] is not found[b]:
            both = found[a] + found[b]
            for point in both:
                found[point] = both
    return found


def connected(many, pairs, question):
    """The answer of a Unions."""
    found = components(many, pairs)
    if question[0] == "same":
        return question[2] in found[question[1]]
    if question[0] == "size":
        return len(found[question[1]])
    return len({id(component) for component in found})


def all_sums(integers):
    """All sums without carry of some of the integers."""
    found = {0}
    for one in integers:
        found |= {one ^ other for other in found}
    return found


def spanned(integers, question):
    """The answer of a Span over few integers."""
    sums = all_sums(integers)
    if question[0] == "holds":
        return question[1] in sums
    # Each integer that is needed doubles the number of sums.
    return len(sums).bit_length() - 1
