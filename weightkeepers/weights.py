"""Weight distributions, their MacWilliams transforms, least distances, and the bounds that codes may reach."""

from weightkeepers.errors import Malformed, Refused
from weightkeepers.linear import add, is_word
from weightkeepers.whole import binomial, is_integer, power
from weightkeepers.words import weight


def weight_distribution(code):
    """Return the tuple of the numbers of words of each weight."""
    return _counted([weight(word) for word in code.words()], code.n)


def coset_distribution(code, word):
    """Return the tuple of the numbers of words of each weight in the coset of a word."""
    if not is_word(word, code.p, code.n):
        raise Malformed("the word")
    return _counted([weight(add(word, other, code.p)) for other in code.words()], code.n)


def _counted(weights, n):
    """Return how often each number from 0 to `n` is among the weights."""
    counts = [0] * (n + 1)
    for found in weights:
        counts[found] += 1
    return tuple(counts)


def krawtchouk(p, n, j, i):
    """Return the Krawtchouk number `K_j(i)` for the length `n` over `p`."""
    return sum([
        power(-1, s) * power(p - 1, j - s) * binomial(i, s) * binomial(n - i, j - s)
        for s in range(j + 1)
    ])


def macwilliams(p, n, numbers):
    """Return the weight distribution that the dual of a code with this weight distribution has."""
    if not _are_counts(numbers, n):
        raise Malformed("the numbers")
    whole = sum(numbers)
    sums = [_transformed(p, n, numbers, j) for j in range(n + 1)]
    if any([found % whole != 0 for found in sums]):
        raise Refused("fraction")
    return tuple([found // whole for found in sums])


def _are_counts(numbers, n):
    """Return True for a tuple of `n + 1` integers from 0 on that are not all 0, for every value."""
    if not isinstance(numbers, tuple) or len(numbers) != n + 1:
        return False
    return all([is_integer(number) and number >= 0 for number in numbers]) and sum(numbers) > 0


def _transformed(p, n, numbers, j):
    """Return the sum of the numbers, each multiplied by `K_j` of its index."""
    return sum([number * krawtchouk(p, n, j, i) for i, number in enumerate(numbers)])


def binomial_moment(numbers, s):
    """Return the sum of `(n - i over s)` times the number with the index `i`, for `n + 1` numbers."""
    n = len(numbers) - 1
    return sum([binomial(n - i, s) * number for i, number in enumerate(numbers)])


def minimum_distance(code):
    """Return the least weight of a word other than zero, or None for the code of the zero word."""
    return min([weight(word) for word in code.words() if any(word)], default=None)


def minimum_words(code):
    """Return the tuple of the words of the least weight other than 0, ascending."""
    least = minimum_distance(code)
    return tuple([word for word in code.words() if weight(word) == least])


def ball_size(p, n, t):
    """Return the number of the words at a distance of at most `t` of a word of the length `n`."""
    # No word is farther away than `n`.
    return sum([binomial(n, i) * power(p - 1, i) for i in range(min(t, n) + 1)])


def is_mds(code):
    """Return True if the code reaches the Singleton bound."""
    d = minimum_distance(code)
    return d is not None and code.k == code.n - d + 1


def is_perfect(code):
    """Return True if the code reaches the Hamming bound."""
    d = minimum_distance(code)
    return d is not None and code.size() * ball_size(code.p, code.n, (d - 1) // 2) == power(code.p, code.n)


def griesmer_length(p, k, d):
    """Return the sum of the `d / p^i`, rounded up, over `i` from 0 to `k - 1`."""
    total = 0
    term = d
    left = k
    while left > 0 and term > 1:
        total += term
        # A quotient that is rounded up twice is the one of both divisions at once, rounded up.
        term = -(-term // p)
        left -= 1
    # All terms that are left are 1.
    return total + left


def reaches_griesmer(code):
    """Return True if the code reaches the Griesmer bound."""
    d = minimum_distance(code)
    return d is not None and code.n == griesmer_length(code.p, code.k, d)
