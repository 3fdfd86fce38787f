"""What is known of blocks and pieces from their numbers alone."""

from oncebuilt.errors import BadNumber

GREATEST = 10 ** 30


def block_sizes(many):
    """Return the different powers of two whose sum is many, in descending order."""
    check_number(many)
    sizes = []
    rest = many
    while rest > 0:
        size = greatest_power(rest)
        sizes.append(size)
        rest -= size
    return sizes


def total_built(many):
    """Return the sum of 2 ** exponent of k for k from 1 to many."""
    check_number(many)
    total = 0
    size = 1
    while size <= many:
        # The multiples of size that are not multiples of 2 * size are those with its exponent.
        total += size * (many // size - many // (2 * size))
        size *= 2
    return total


def pieces(begin, end):
    """Split the integers from begin to end - 1 into as few pieces (first, size) as possible."""
    check_number(begin)
    check_number(end)
    if begin > end:
        raise BadNumber("begin must not be greater than end")
    found = []
    first = begin
    while first < end:
        size = piece_size(first, end - first)
        found.append((first, size))
        first += size
    return found


def piece_size(first, room):
    """Return the greatest power of two that divides first and is at most the room."""
    fitting = greatest_power(room)
    # Every power of two divides 0, so only the room limits a piece that begins there.
    if first == 0:
        return fitting
    return min(fitting, lowest_power(first))


def exponent(number):
    """Return how many times 2 divides a positive integer."""
    return lowest_power(number).bit_length() - 1


def lowest_power(number):
    """Return the greatest power of two that divides a positive integer."""
    return number & -number


def greatest_power(number):
    """Return the greatest power of two that is at most a positive integer."""
    return 1 << (number.bit_length() - 1)


def is_integer(value):
    """Tell whether the value is an integer, which a boolean is not."""
    return isinstance(value, int) and not isinstance(value, bool)


def check_integer(value):
    """Raise BadNumber unless the value is an integer."""
    if not is_integer(value):
        raise BadNumber("an integer is needed")


def check_number(value):
    """Raise BadNumber unless the value is an integer from 0 to GREATEST."""
    check_integer(value)
    if value < 0 or value > GREATEST:
        raise BadNumber("an integer from 0 to 10 ** 30 is needed")
