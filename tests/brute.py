"""Slow and plain ways to the same results, which use nothing of the program."""

from functools import cache
from itertools import permutations, product
from random import Random

PRIMES = (2, 3, 5, 7)

# Values of all kinds that are neither integers nor words of a length from 1 on.
ODD_VALUES = (True, False, None, "", "0", "101", "abc", [], [0, 1], [[0]], (), ((),), (None,), ("0",),
              ([],), ((0,),), object(), ValueError("odd"), 1.0, 0.0, {}, {0: 1}, b"", b"\x00\x01")


def all_words(p, n):
    """All words of the length n over p, ascending."""
    return list(product(range(p), repeat=n))


def is_plain_word(value, p, n):
    """Is the value a tuple of n integers (no booleans) from 0 to p - 1."""
    return type(value) is tuple and len(value) == n and all(type(item) is int and item in range(p) for item in value)


def total(rows, factors, width, p):
    """The sum of the rows multiplied by the factors."""
    return tuple(sum(factor * row[at] for row, factor in zip(rows, factors)) % p for at in range(width))


def product_of(v, w, p):
    """The product of two words."""
    return sum(v[at] * w[at] for at in range(len(v))) % p


def span(rows, width, p):
    """The set of all sums of multiples of the rows."""
    return {total(rows, factors, width, p) for factors in product(range(p), repeat=len(rows))}


def small_tables():
    """Triples (p, width, rows): all tables of some small shapes, the empty ones among them."""
    shapes = [(2, 3, 3), (2, 4, 2), (3, 3, 2), (3, 2, 3), (5, 2, 2), (7, 2, 2), (7, 1, 2), (5, 1, 3)]
    shapes += [(p, width, 0) for p in PRIMES for width in (0, 1, 3)]
    shapes += [(p, 0, count) for p in PRIMES for count in (1, 2)]
    for p, width, count in shapes:
        for rows in product(all_words(p, width), repeat=count):
            yield p, width, rows


def larger_tables():
    """Triples (p, width, rows) of tables with dependent rows, rows of zeros and rows told twice."""
    chance = Random(20)
    for p in PRIMES:
        for width in range(1, 13):
            for rank in range(5):
                base = [tuple(chance.randrange(p) for _ in range(width)) for _ in range(rank)]
                sums = [total(base, [chance.randrange(p) for _ in base], width, p) for _ in range(2)]
                rows = base + sums + base[:1] + [(0,) * width]
                chance.shuffle(rows)
                yield p, width, tuple(rows)


def sum_words(v, w, p):
    """The sum of two words."""
    return total((v, w), (1, 1), len(v), p)


def subspaces(p, n):
    """Pairs (rows, words) of all codes: rows that span them, and the set of their words."""
    found = {frozenset({(0,) * n}): ()}
    todo = list(found)
    for space in todo:
        for word in all_words(p, n):
            rows = (*found[space], word)
            if word not in space:
                larger = frozenset(span(rows, n, p))
                if larger not in found:
                    found[larger] = rows
                    todo.append(larger)
    return [(rows, space) for space, rows in found.items()]


@cache
def small_codes():
    """Tuples (p, n, rows, words) of all codes of some small lengths."""
    lengths = ((2, 0), (2, 1), (2, 2), (2, 3), (2, 4), (3, 0), (3, 1), (3, 2), (3, 3),
               (5, 0), (5, 1), (5, 2), (7, 0), (7, 1), (7, 2))
    return [(p, n, rows, words) for p, n in lengths for rows, words in subspaces(p, n)]


@cache
def sample_codes():
    """Tuples (p, n, rows, words) of some codes of lengths whose words can still all be gone over."""
    chance = Random(31)
    found = []
    for p, n in ((2, 5), (2, 6), (2, 7), (2, 8), (3, 4), (3, 5), (5, 3), (5, 4), (7, 3)):
        for count in range(n + 1):
            rows = tuple(tuple(chance.randrange(p) for _ in range(n)) for _ in range(count))
            found.append((p, n, rows, frozenset(span(rows, n, p))))
    return found


def known_codes():
    """Tuples (p, n, rows) of codes with many maps onto themselves, and of large ones."""
    golay = "100000011111 010000101221 001000110122 000100121012 000010122101 000001112210".split()
    return [
        (2, 7, ((1, 0, 0, 0, 0, 1, 1), (0, 1, 0, 0, 1, 0, 1), (0, 0, 1, 0, 1, 1, 0), (0, 0, 0, 1, 1, 1, 1))),
        (3, 4, ((1, 0, 1, 1), (0, 1, 1, 2))),
        (3, 11, tuple(tuple(map(int, row[1:])) for row in golay)),
        (3, 12, tuple(tuple(map(int, row)) for row in golay)),
        (5, 6, ((1, 1, 1, 1, 1, 0), (0, 1, 2, 3, 4, 1))),
        (7, 8, ((1,) * 7 + (0,), tuple(range(7)) + (0,), tuple(x * x % 7 for x in range(7)) + (1,))),
        (2, 12, tuple(all_words(2, 12)[1 << at] for at in range(12))),
    ]


def weight_of(word):
    """The number of items other than 0."""
    return sum(1 for item in word if item)


def distance_of(v, w):
    """The number of places at which two words differ."""
    return sum(1 for at in range(len(v)) if v[at] != w[at])


def counted_weights(words, n):
    """The numbers of words of each weight from 0 to n."""
    weights = [weight_of(word) for word in words]
    return tuple(weights.count(w) for w in range(n + 1))


def monomials(p, n):
    """Pairs (places, multiples) of all monomial maps of the length n over p, ascending."""
    return list(product(permutations(range(n)), product(range(1, p), repeat=n)))


def moved(places, multiples, word, p):
    """The word that a monomial map carries a word to."""
    sources = [places.index(at) for at in range(len(word))]
    return tuple(word[source] * multiples[source] % p for source in sources)


def plain_line(column, p):
    """The multiple of a column whose first item other than 0 is 1, or the column itself."""
    multiples = [tuple(a * item % p for item in column) for a in range(1, p)]
    normed = [multiple for multiple in multiples if [item for item in multiple if item][:1] == [1]]
    return normed[0] if normed else tuple(column)


def plain_mark(words, n, p):
    """The lines of the columns, ascending."""
    return tuple(sorted(plain_line([word[at] for word in words], p) for at in range(n)))


def plain_levels(words, p, n, k):
    """The levels of a code, by going over all tuples with one word more."""
    found = []
    tuples = [()]
    for _ in range(k):
        longer = [(*held, word) for held in tuples for word in sorted(words - span(held, n, p))]
        marks = [plain_mark(held, n, p) for held in longer]
        least = min(marks)
        tuples = sorted(held for held, mark in zip(longer, marks) if mark == least)
        found.append((least, tuple(tuples)))
    return tuple(found)


def spoiled(value):
    """Values that differ from this one in the kind of one thing, or in the number of things in one tuple."""
    yield from (None, "", (), [], value if isinstance(value, list) else [value], (value,), {0: value})
    if isinstance(value, int):
        yield from (str(value), [value], value + 10 ** 20, -1 - value)
        if value in (0, 1):
            yield value == 1
    if isinstance(value, tuple):
        yield list(value)
        yield value + value[:1] if value else (0,)
        yield (*value, ())
        yield value[:-1] if value else (None,)
        for at, item in enumerate(value):
            for wrong in spoiled(item):
                if wrong != item or isinstance(wrong, bool):
                    yield (*value[:at], wrong, *value[at + 1:])
            yield value[:at] + value[at + 1:]
    if isinstance(value, str):
        yield from (value + " ", value.upper(), value[:-1], 0, True)
