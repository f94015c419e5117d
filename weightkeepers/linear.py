"""Words and tables modulo a prime p.

A word is a tuple of integers from 0 to p - 1, a table is made of words of one width.
"""

from weightkeepers.whole import inverse, is_integer


def is_word(value, p, n):
    """Return True if the value is a word of the length `n` over `p`, for every value."""
    if not isinstance(value, tuple) or len(value) != n:
        return False
    return all([is_integer(item) and 0 <= item < p for item in value])


def add(v, w, p):
    """Return the sum of two words of one length."""
    return tuple([(a + b) % p for a, b in zip(v, w)])


def scaled(v, a, p):
    """Return the word `v` multiplied by the integer `a`."""
    return tuple([item * a % p for item in v])


def dot(v, w, p):
    """Return the product of two words of one length."""
    return sum([a * b for a, b in zip(v, w)]) % p


def combine(rows, weights, width, p):
    """Return the sum of the rows, each multiplied by the integer of `weights` beside it."""
    total = (0,) * width
    for row, factor in zip(rows, weights):
        total = add(total, scaled(row, factor, p), p)
    return total


def reduced(rows, width, p):
    """Return the reduced table with the span of the rows, and the tuple of its pivots."""
    table = []
    pivots = []
    left = rows
    for at in range(width):
        found = [row for row in left if row[at] != 0]
        if found:
            head = scaled(found[0], inverse(found[0][at], p), p)
            table = [_cleared(row, head, at, p) for row in table] + [head]
            # This makes the row that the head came from a row of zeros, which is never found again.
            left = [_cleared(row, head, at, p) for row in left]
            pivots.append(at)
    return tuple(table), tuple(pivots)


def _cleared(row, head, at, p):
    """Return the row less the multiple of `head`, which is 1 at the place, that makes it 0 there."""
    return add(row, scaled(head, -row[at], p), p)


def kernel(rows, width, p):
    """Return one word for each place that is no pivot, in the order of the places.

    The word has the product 0 with each row, 1 at this place and 0 at all others that are no pivots.
    """
    table, pivots = reduced(rows, width, p)
    return tuple([_kernel_word(table, pivots, at, width, p) for at in range(width) if at not in pivots])


def _kernel_word(table, pivots, free, width, p):
    """Return the word of the kernel that belongs to the place `free`."""
    word = [0] * width
    word[free] = 1
    for row, pivot in zip(table, pivots):
        word[pivot] = -row[free] % p
    return tuple(word)


def solve(rows, width, right, p):
    """Return the word whose product with each row is the item of `right` beside it, or None.

    The word is 0 at all places that are no pivots.
    """
    widened = [row + (goal % p,) for row, goal in zip(rows, right)]
    table, pivots = reduced(widened, width + 1, p)
    # A pivot in the added column means: some sum of rows is zero, but its product would have to be 1.
    if width in pivots:
        return None
    word = [0] * width
    for row, pivot in zip(table, pivots):
        word[pivot] = row[width]
    return tuple(word)


def coordinates(rows, word, p):
    """Return the multiples of the independent rows whose sum is the word, or None."""
    # The multiples are a word too: its product with each column of the rows is the item there.
    columns = [tuple([row[at] for row in rows]) for at in range(len(word))]
    return solve(columns, len(rows), word, p)
