"""Codes that are told by a rule, and codes made of other codes."""

from weightkeepers.code import Code, check_rows
from weightkeepers.errors import Malformed
from weightkeepers.linear import kernel
from weightkeepers.whole import is_integer


def zero_code(p, n):
    """Return the code of the word of zeros alone."""
    return Code(p, n, ())


def whole_code(p, n):
    """Return the code of all words."""
    return zero_code(p, n).dual()


def repetition_code(p, n):
    """Return the code that the word of ones spans."""
    # The word of ones can be made only if the length is in order.
    check_rows(p, n, ())
    return Code(p, n, ((1,) * n,))


def zero_sum_code(p, n):
    """Return the code of all words whose items have the sum 0 modulo `p`."""
    return repetition_code(p, n).dual()


def of_parity_checks(p, n, rows):
    """Return the code of all words whose product with each row is 0."""
    check_rows(p, n, rows)
    return Code(p, n, kernel(rows, n, p))


def direct_sum(a, b):
    """Return the code of all words of the first code, each followed by each word of the second one."""
    _check_primes(a, b)
    first = [row + (0,) * b.n for row in a.rows]
    second = [(0,) * a.n + row for row in b.rows]
    return Code(a.p, a.n + b.n, first + second)


def plotkin_sum(a, b):
    """Return the code of all words `u` of the first code, each followed by `u + v` for each `v` of the second one."""
    _check_primes(a, b)
    if a.n != b.n:
        raise Malformed("unlike lengths")
    first = [row + row for row in a.rows]
    second = [(0,) * a.n + row for row in b.rows]
    return Code(a.p, a.n + b.n, first + second)


def punctured(code, at):
    """Return the code of all words without their item at a place."""
    _check_place(code, at)
    return Code(code.p, code.n - 1, [_without(row, at) for row in code.rows])


def shortened(code, at):
    """Return the code of the words that have 0 at a place, without this item."""
    _check_place(code, at)
    unit = tuple([int(place == at) for place in range(code.n)])
    # The unit word as one more parity check leaves the words that have 0 at the place.
    rows = kernel(code.checks() + (unit,), code.n, code.p)
    return Code(code.p, code.n - 1, [_without(row, at) for row in rows])


def extended(code):
    """Return the code of all words, each followed by the number that makes the sum of all items 0."""
    return Code(code.p, code.n + 1, [row + (-sum(row) % code.p,) for row in code.rows])


def product_code(a, b):
    """Return the code that the products of all items of a word of `a` and a word of `b` span."""
    _check_primes(a, b)
    # The rows are enough, since these products are linear in both words.
    rows = [tuple([x * y % a.p for x in u for y in v]) for u in a.rows for v in b.rows]
    return Code(a.p, a.n * b.n, rows)


def _without(word, at):
    """Return the word without its item at a place."""
    return word[:at] + word[at + 1:]


def _check_primes(a, b):
    """Raise Malformed for codes over unlike primes."""
    if a.p != b.p:
        raise Malformed("unlike primes")


def _check_place(code, at):
    """Raise Malformed if the code has no such place."""
    if not is_integer(at) or not 0 <= at < code.n:
        raise Malformed("no such place")
