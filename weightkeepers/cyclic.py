"""Polynomials modulo a prime, and cyclic codes.

A polynomial is the tuple of its coefficients, the constant first, the last one not 0; zero is the empty tuple.
"""

from weightkeepers.code import Code, is_prime
from weightkeepers.errors import Malformed, Refused
from weightkeepers.linear import add, is_word, scaled
from weightkeepers.whole import inverse, is_integer

_LONGEST = 12


def _trimmed(items):
    """Return the polynomial with these coefficients, which may end in zeros."""
    places = [at for at, item in enumerate(items) if item != 0]
    return tuple(items[:places[-1] + 1]) if places else ()


def _monic(a, p):
    """Return the multiple of a polynomial that is monic, or zero."""
    return scaled(a, inverse(a[-1], p), p) if a else a


def times(a, b, p):
    """Return the product of two polynomials."""
    items = [0] * (len(a) + len(b))
    for i, x in enumerate(a):
        for j, y in enumerate(b):
            items[i + j] = (items[i + j] + x * y) % p
    return _trimmed(items)


def divided(a, b, p):
    """Return the pair of the quotient and the remainder of two polynomials."""
    if len(b) == 0:
        raise Refused("zero")
    left = list(a)
    quotient = []
    head = inverse(b[-1], p)
    for at in reversed(range(len(a) - len(b) + 1)):
        factor = left[at + len(b) - 1] * head % p
        quotient.append(factor)
        for j, y in enumerate(b):
            left[at + j] = (left[at + j] - factor * y) % p
    return tuple(quotient[::-1]), _trimmed(left)


def common_divisor(a, b, p):
    """Return the monic greatest common divisor of two polynomials, zero if both are zero."""
    one = a
    other = b
    while other:
        _, rest = divided(one, other, p)
        one = other
        other = rest
    return _monic(one, p)


def unit_polynomial(p, n):
    """Return `x^n - 1`."""
    _check_unit(p, n)
    return (p - 1,) + (0,) * (n - 1) + (1,)


def _check_unit(p, n):
    """Raise what is wrong with a prime and a length."""
    if not is_prime(p) or not is_integer(n) or n < 1:
        raise Malformed("the prime or the length")
    if n > _LONGEST:
        raise Refused("length")


def factors_of_unit(p, n):
    """Return the tuple of the pairs of an irreducible factor of `x^n - 1` and its exponent, in order."""
    _check_unit(p, n)
    # x^n - 1 is a power of x^m - 1: the exponent is the greatest power of p that divides n.
    exponent = 1
    while n // exponent % p == 0:
        exponent = exponent * p
    m = n // exponent
    parts = [unit_polynomial(p, m)]
    # The powers h^p and h are equal modulo x^m - 1 for the sum h of the powers of x of such a class, so
    # each factor divides exactly one h - c; and any two factors are kept apart by some class (Berlekamp).
    for numbers in _classes(p, m):
        parts = [found for part in parts for found in _split(part, numbers, m, p)]
    return tuple([(part, exponent) for part in _in_order(parts)])


def _classes(p, m):
    """Return the lists of the numbers below `m` that come from one another by multiplying by `p` modulo `m`."""
    classes = []
    for start in range(m):
        numbers = [start]
        while numbers[-1] * p % m != start:
            numbers.append(numbers[-1] * p % m)
        if min(numbers) == start:
            classes.append(numbers)
    return classes


def _split(part, numbers, m, p):
    """Return the common divisors, other than 1, of a polynomial and the sum of these powers of x less each number."""
    total = tuple([int(at in numbers) for at in range(m)])
    shifts = [_trimmed(add(total, (-c % p,) + (0,) * (m - 1), p)) for c in range(p)]
    divisors = [common_divisor(part, shift, p) for shift in shifts]
    return [found for found in divisors if len(found) > 1]


def _in_order(polynomials):
    """Return the list of the polynomials in order of their degrees, then as tuples."""
    return [found for _, found in sorted([(len(found), found) for found in polynomials])]


def divisors_of_unit(p, n):
    """Return the tuple of all monic divisors of `x^n - 1`, in order."""
    found = [(1,)]
    for factor, exponent in factors_of_unit(p, n):
        powers = [(1,)]
        for _ in range(exponent):
            powers.append(times(powers[-1], factor, p))
        found = [times(divisor, told, p) for divisor in found for told in powers]
    return tuple(_in_order(found))


def shifted(word):
    """Return the word with its last item put first."""
    return word[-1:] + word[:-1]


def is_cyclic(code):
    """Return True if the code has a length from 1 on and contains the shift of each of its words."""
    return code.n >= 1 and all([code.holds(shifted(row)) for row in code.rows])


def cyclic_code(p, n, g):
    """Return the code of the words of the length `n` whose polynomials are multiples of `g`."""
    unit = unit_polynomial(p, n)
    if not _is_monic(g, p) or divided(unit, g, p)[1] != ():
        raise Malformed("the divisor")
    # The multiples of g by powers of x.
    count = n - len(g) + 1
    return Code(p, n, [(0,) * at + g + (0,) * (count - 1 - at) for at in range(count)])


def _is_monic(value, p):
    """Return True if the value is a monic polynomial, for every value."""
    return isinstance(value, tuple) and len(value) > 0 and is_word(value, p, len(value)) and value[-1] == 1


def all_cyclic(p, n):
    """Return the tuple of all cyclic codes with at most 4096 words, in order of their generator polynomials."""
    codes = []
    for divisor in divisors_of_unit(p, n):
        try:
            codes.append(cyclic_code(p, n, divisor))
        except Refused:
            # It has too many words.
            continue
    return tuple(codes)


def generator_polynomial(code):
    """Return the generator polynomial of a cyclic code."""
    if not is_cyclic(code):
        raise Refused("cyclic")
    # The polynomials of the words are the multiples of this one: so it is their common divisor.
    found = unit_polynomial(code.p, code.n)
    for row in code.rows:
        found = common_divisor(found, _trimmed(row), code.p)
    return found


def check_polynomial(code):
    """Return `x^n - 1` divided by the generator polynomial of a cyclic code."""
    generator = generator_polynomial(code)
    quotient, _ = divided(unit_polynomial(code.p, code.n), generator, code.p)
    return quotient
