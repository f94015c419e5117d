"""Codes: sets of words that contain all sums and all multiples of their words."""

from weightkeepers.errors import Fault, Malformed, NoText, Refused
from weightkeepers.linear import add, dot, is_word, kernel, reduced, scaled
from weightkeepers.whole import is_integer, power
from weightkeepers.words import read_word, written

_PRIMES = (2, 3, 5, 7)
_LONGEST = 12
_MOST_WORDS = 4096


def is_prime(p):
    """Return True if the value is one of the integers 2, 3, 5 and 7, for every value."""
    return is_integer(p) and p in _PRIMES


def check_rows(p, n, rows):
    """Raise what is wrong with the arguments of a code, except that it has too many words."""
    if not is_prime(p) or not is_integer(n) or n < 0:
        raise Malformed("the prime or the length")
    if n > _LONGEST:
        raise Refused("length")
    if not isinstance(rows, (list, tuple)):
        raise Malformed("the rows")
    if not all([is_word(row, p, n) for row in rows]):
        raise Malformed("a row")


class Code:
    """The code of the length `n` over `p` that the words of a list or tuple span.

    `rows` is the reduced table that spans it, and `k` is its dimension.
    """

    def __init__(self, p, n, rows):
        check_rows(p, n, rows)
        table, _ = reduced(rows, n, p)
        if power(p, len(table)) > _MOST_WORDS:
            raise Refused("large")
        self.p = p
        self.n = n
        self.rows = table
        self.k = len(table)
        # Kept, since each syndrome needs them.
        self._checks = kernel(table, n, p)

    def __eq__(self, other):
        return isinstance(other, Code) and self.p == other.p and self.n == other.n and self.rows == other.rows

    def __str__(self):
        return f"{self.p} {self.n}:{_written_rows(self.rows)}"

    def size(self):
        """Return the number of the words."""
        return power(self.p, self.k)

    def holds(self, value):
        """Return True if the value is a word of the code, for every value."""
        return is_word(value, self.p, self.n) and not any(self.syndrome(value))

    def words(self):
        """Give all words, ascending."""
        # The items at the pivots are the multiples of the rows, and decide about the order: so the
        # sums are ascending, if the multiples of the first row change last.
        found = [(0,) * self.n]
        for row in self.rows:
            multiples = [scaled(row, a, self.p) for a in range(self.p)]
            found = [add(word, multiple, self.p) for word in found for multiple in multiples]
        yield from found

    def dual(self):
        """Return the code of all words whose product with each word of this code is 0."""
        return Code(self.p, self.n, self._checks)

    def checks(self):
        """Return the tuple of the parity checks."""
        return self._checks

    def syndrome(self, word):
        """Return the tuple of the products of a word with the parity checks."""
        if not is_word(word, self.p, self.n):
            raise Malformed("the word")
        return tuple([dot(check, word, self.p) for check in self._checks])


def _written_rows(rows):
    """Return the written forms of the rows, with a space before each."""
    return "".join([f" {written(row)}" for row in rows])


def sum_of(a, b):
    """Return the code of all sums of a word of the one code and a word of the other."""
    _check_alike(a, b)
    return Code(a.p, a.n, a.rows + b.rows)


def common_part(a, b):
    """Return the code of the words that are in both codes."""
    _check_alike(a, b)
    return Code(a.p, a.n, kernel(a.checks() + b.checks(), a.n, a.p))


def _check_alike(a, b):
    """Raise Malformed for codes of unlike primes or lengths."""
    if a.p != b.p or a.n != b.n:
        raise Malformed("unlike codes")


def read_code(text):
    """Return the code with this text; NoText(0) for every other value."""
    if not isinstance(text, str):
        raise NoText(0)
    try:
        code = _spanned(text)
    except Fault:
        raise NoText(0) from None
    # What is not told as the code tells itself (rows that are not reduced, say) is no text of a code.
    if str(code) != text:
        raise NoText(0)
    return code


def _spanned(text):
    """Return the code that the rows of a text span, which may be told in another way there."""
    head, _, tail = text.partition(":")
    p, _, n = head.partition(" ")
    if p not in [str(prime) for prime in _PRIMES] or n not in [str(k) for k in range(_LONGEST + 1)]:
        raise NoText(0)
    rows = [read_word(part, int(p)) for part in tail.split(" ") if part != ""]
    return Code(int(p), int(n), rows)
