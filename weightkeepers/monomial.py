"""Monomial maps: they move the items of a word to other places, and multiply each by a number other than 0."""

from weightkeepers.code import Code, is_prime
from weightkeepers.errors import Malformed
from weightkeepers.linear import is_word
from weightkeepers.whole import inverse, is_integer


def _are_places(places):
    """Return True for a tuple of the numbers below its length, each once, for every value."""
    if not isinstance(places, tuple) or not all([is_integer(place) for place in places]):
        return False
    return sorted(places) == list(range(len(places)))


class Monomial:
    """The map that carries the item of a word at `i` to `places[i]`, multiplied by `multiples[i]`."""

    def __init__(self, p, places, multiples):
        if not is_prime(p):
            raise Malformed("the prime")
        if not _are_places(places):
            raise Malformed("the places")
        if not is_word(multiples, p, len(places)) or 0 in multiples:
            raise Malformed("the multiples")
        self.p = p
        self.places = places
        self.multiples = multiples

    def __eq__(self, other):
        return (
            isinstance(other, Monomial)
            and self.p == other.p
            and self.places == other.places
            and self.multiples == other.multiples
        )

    def carried(self, word):
        """Return the word that a word is carried to."""
        if not is_word(word, self.p, len(self.places)):
            raise Malformed("the word")
        items = [0] * len(word)
        for item, place, multiple in zip(word, self.places, self.multiples):
            items[place] = item * multiple % self.p
        return tuple(items)

    def code(self, code):
        """Return the code that the words of a code are carried to."""
        if code.p != self.p or code.n != len(self.places):
            raise Malformed("the code")
        return Code(code.p, code.n, [self.carried(row) for row in code.rows])

    def after(self, other):
        """Return the monomial map that does the other one first, then this one."""
        if other.p != self.p or len(other.places) != len(self.places):
            raise Malformed("unlike maps")
        places = tuple([self.places[between] for between in other.places])
        multiples = tuple([
            multiple * self.multiples[between] % self.p
            for between, multiple in zip(other.places, other.multiples)
        ])
        return Monomial(self.p, places, multiples)

    def undone(self):
        """Return the monomial map that undoes this one."""
        places = [0] * len(self.places)
        multiples = [0] * len(self.places)
        for at, place in enumerate(self.places):
            places[place] = at
            multiples[place] = inverse(self.multiples[at], self.p)
        return Monomial(self.p, tuple(places), tuple(multiples))


def identity(p, n):
    """Return the monomial map of the length `n` over `p` that changes nothing."""
    return Monomial(p, tuple(range(n)), (1,) * n)
