"""Slow and plain ways to the same results, which use nothing of the program."""

from itertools import product
from random import Random

PRIMES = (2, 3, 5, 7)

# Values of all kinds that are neither integers nor words of a length from 1 on.
ODD_VALUES = (True, False, None, "", "0", "101", "abc", [], [0, 1], [[0]], (), ((),), (None,), ("0",),
              ([],), ((0,),), object(), ValueError("odd"), 1.0, 0.0, {}, {0: 1}, b"", b"\x00\x01")


def all_words(p, n):
    """All words of the length n over p, ascending."""
    return list(product(range(p), repeat=n))


def is_plain_word(value, p, n):
    """Is the value a tuple of n integers (no booleans) from 0 to p - 1."""
    return type(value) is tuple and len(value) == n and all(type(item) is int and item in range(p) for item in value)


def total(rows, factors, width, p):
    """The sum of the rows multiplied by the factors."""
    return tuple(sum(factor * row[at] for row, factor in zip(rows, factors)) % p for at in range(width))


def product_of(v, w, p):
    """The product of two words."""
    return sum(v[at] * w[at] for at in range(len(v))) % p


def span(rows, width, p):
    """The set of all sums of multiples of the rows."""
    return {total(rows, factors, width, p) for factors in product(range(p), repeat=len(rows))}


def small_tables():
    """Triples (p, width, rows): all tables of some small shapes, the empty ones among them."""
    shapes = [(2, 3, 3), (2, 4, 2), (3, 3, 2), (3, 2, 3), (5, 2, 2), (7, 2, 2), (7, 1, 2), (5, 1, 3)]
    shapes += [(p, width, 0) for p in PRIMES for width in (0, 1, 3)]
    shapes += [(p, 0, count) for p in PRIMES for count in (1, 2)]
    for p, width, count in shapes:
        for rows in product(all_words(p, width), repeat=count):
            yield p, width, rows


def larger_tables():
    """Triples (p, width, rows) of tables with dependent rows, rows of zeros and rows told twice."""
    chance = Random(20)
    for p in PRIMES:
        for width in range(1, 13):
            for rank in range(5):
                base = [tuple(chance.randrange(p) for _ in range(width)) for _ in range(rank)]
                sums = [total(base, [chance.randrange(p) for _ in base], width, p) for _ in range(2)]
                rows = base + sums + base[:1] + [(0,) * width]
                chance.shuffle(rows)
                yield p, width, tuple(rows)
