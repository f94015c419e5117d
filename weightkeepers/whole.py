"""Whole numbers: what counts as one, inverses modulo a prime, binomials and powers."""

from math import comb

from weightkeepers.errors import Refused


def is_integer(value):
    """Return True if the value is an integer and not True or False."""
    return isinstance(value, int) and not isinstance(value, bool)


def inverse(a, p):
    """Return the number from 1 to p - 1 whose product with `a` is 1 modulo `p`."""
    for candidate in range(1, p):
        if a * candidate % p == 1:
            return candidate
    raise Refused("inverse")


def binomial(n, k):
    """Return the binomial number (n over k); 0 if `k` is below 0 or above `n`."""
    # comb is 0 above n by itself, but raises below 0.
    if k < 0:
        return 0
    return comb(n, k)


def power(a, k):
    """Return `a` to the power `k`, from 0 on."""
    result = 1
    factor = a
    left = k
    # By squaring, since the steps are then few for any exponent.
    while left > 0:
        if left % 2 == 1:
            result = result * factor
        factor = factor * factor
        left = left // 2
    return result
