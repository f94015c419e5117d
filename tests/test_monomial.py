import unittest
from itertools import product

from brute import (ODD_VALUES, PRIMES, all_words, distance_of, monomials, moved, sample_codes, small_codes,
                   sum_words, weight_of)
from weightkeepers.build import zero_code
from weightkeepers.code import Code
from weightkeepers.errors import Malformed, NoText
from weightkeepers.monomial import Monomial, identity

# The primes and lengths whose monomial maps are all gone over.
SHAPES = ((2, 0), (2, 1), (2, 2), (2, 3), (3, 0), (3, 1), (3, 2), (3, 3), (5, 1), (5, 2), (7, 0), (7, 1), (7, 2))


def maps(p, n):
    """All monomial maps of the length n over p."""
    return [Monomial(p, places, multiples) for places, multiples in monomials(p, n)]


def fields(told):
    """The fields of a monomial map."""
    return told.p, told.places, told.multiples


class Making(unittest.TestCase):
    def assert_malformed(self, *arguments):
        with self.assertRaises(Malformed):
            Monomial(*arguments)

    def test_fields(self):
        self.assertEqual(fields(Monomial(5, (2, 0, 1), (1, 4, 3))), (5, (2, 0, 1), (1, 4, 3)))
        for p, n in SHAPES:
            for places, multiples in monomials(p, n):
                self.assertEqual(fields(Monomial(p, places, multiples)), (p, places, multiples))

    def test_other_lengths(self):
        for p in PRIMES:
            self.assertEqual(fields(Monomial(p, (), ())), (p, (), ()))
            for n in (12, 13, 20):
                places = tuple(reversed(range(n)))
                self.assertEqual(Monomial(p, places, (p - 1,) * n).places, places)

    def test_wrong_primes(self):
        for p in (*ODD_VALUES, 0, 1, 4, -2, 6, 9, 11, 10 ** 30, (2,), 2.0, "2", Malformed("p")):
            self.assert_malformed(p, (0, 1), (1, 1))
            self.assert_malformed(p, (), ())

    def test_wrong_places(self):
        values = [value for value in ODD_VALUES if value != ()]
        values += [0, (0, 0), (1, 1), (1, 2), (0, 2), (0, -1), (-1, 0), (-1, -2), (0,), (1,), (0, 1, 2), (True, 0),
                   (0, True), (False, 1), (1, False), (True, False), [0, 1], [1, 0], "01", ("0", "1"), (0, 1.0),
                   (0, None), (None, None), ((0, 1),), ((0,), (1,)), range(2), {0, 1}, {0: 1, 1: 0}, identity(3, 2)]
        for places in values:
            self.assert_malformed(3, places, (1, 1))
        for places in ((0,), [], None, 0, "", False):
            self.assert_malformed(3, places, ())

    def test_wrong_multiples(self):
        values = [value for value in ODD_VALUES if value != ()]
        values += [0, 1, (0, 1), (1, 0), (0, 0), (3, 1), (1, 3), (1, 4), (-1, 1), (1, -2), (1,), (1, 1, 1), (True, 1),
                   (1, True), (False, 1), [1, 1], "11", ("1", "1"), (1, 1.0), (1, None), ((1, 1),), range(1, 3), {1, 2},
                   {1: 1, 2: 1}, identity(3, 2)]
        for multiples in values:
            self.assert_malformed(3, (1, 0), multiples)
        for multiples in ((1,), [], None, 1, "", False):
            self.assert_malformed(3, (), multiples)
        for p in PRIMES:
            for multiple in (0, p, p + 1, -1, True, False):
                self.assert_malformed(p, (0,), (multiple,))
        self.assert_malformed(3, (), (1, 1))
        self.assert_malformed(3, (0, 1), ())


class Carrying(unittest.TestCase):
    def test_told(self):
        told = Monomial(5, (2, 0, 1), (1, 4, 3))
        self.assertEqual(told.carried((1, 2, 3)), (3, 4, 1))
        self.assertEqual(told.carried((0, 0, 1)), (0, 3, 0))

    def test_all_words(self):
        for p, n in SHAPES:
            for told in maps(p, n):
                for word in all_words(p, n):
                    found = told.carried(word)
                    self.assertEqual(found, moved(told.places, told.multiples, word, p))
                    self.assertEqual([found[place] for place in told.places],
                                     [item * multiple % p for item, multiple in zip(word, told.multiples)])

    def test_sums_multiples_weights_and_distances_are_kept(self):
        for p, n in ((2, 3), (3, 2), (7, 1)):
            for told in maps(p, n):
                for v, w in product(all_words(p, n), repeat=2):
                    one, other = told.carried(v), told.carried(w)
                    self.assertEqual(told.carried(sum_words(v, w, p)), sum_words(one, other, p))
                    self.assertEqual(weight_of(one), weight_of(v))
                    self.assertEqual(distance_of(one, other), distance_of(v, w))

    def test_no_words(self):
        told = Monomial(3, (1, 0), (2, 1))
        for value in (*ODD_VALUES, 0, "00", [0, 0], (0,), (0, 0, 0), (0, 3), (-1, 0), (True, 0), (0, False), (0, "1"),
                      (0, 1.0), ((0, 0),), zero_code(3, 2), told, NoText(0)):
            with self.assertRaises(Malformed):
                told.carried(value)
        for value in ([], "", None, (0,), 0):
            with self.assertRaises(Malformed):
                identity(3, 0).carried(value)

    def test_codes(self):
        for p, n, rows, words in small_codes():
            if (p, n) in SHAPES:
                code = Code(p, n, rows)
                for told in maps(p, n):
                    found = told.code(code)
                    self.assertIs(type(found), Code)
                    self.assertEqual((found.p, found.n), (p, n))
                    self.assertEqual(set(found.words()), {told.carried(word) for word in words})

    def test_larger_codes(self):
        for p, n, rows, words in sample_codes():
            code = Code(p, n, rows)
            told = Monomial(p, tuple((at + 2) % n for at in range(n)), tuple(at % (p - 1) + 1 for at in range(n)))
            self.assertEqual(set(told.code(code).words()), {told.carried(word) for word in words})
            self.assertEqual(told.undone().code(told.code(code)), code)
            self.assertEqual(code, Code(p, n, rows))

    def test_unlike_codes(self):
        for p in PRIMES:
            told = identity(p, 3)
            for code in [zero_code(q, n) for q in PRIMES for n in (0, 2, 3, 4, 12)]:
                if (code.p, code.n) == (p, 3):
                    self.assertEqual(told.code(code), code)
                else:
                    with self.assertRaises(Malformed):
                        told.code(code)


class Joining(unittest.TestCase):
    def test_one_after_the_other(self):
        for p, n in ((2, 3), (3, 2), (5, 1), (7, 1), (2, 0)):
            for one, other in product(maps(p, n), repeat=2):
                both = one.after(other)
                for word in all_words(p, n):
                    self.assertEqual(both.carried(word), one.carried(other.carried(word)))

    def test_told(self):
        one, other = Monomial(5, (1, 2, 0), (1, 1, 1)), Monomial(5, (1, 0, 2), (2, 3, 4))
        self.assertEqual(fields(one.after(other)), (5, (2, 1, 0), (2, 3, 4)))
        self.assertEqual(fields(other.after(one)), (5, (0, 2, 1), (3, 4, 2)))
        self.assertEqual(fields(other.undone()), (5, (1, 0, 2), (2, 3, 4)))
        self.assertEqual(fields(one.undone()), (5, (2, 0, 1), (1, 1, 1)))
        self.assertEqual(fields(Monomial(7, (2, 0, 1), (3, 5, 1)).undone()), (7, (1, 2, 0), (3, 1, 5)))

    def test_undone(self):
        for p, n in SHAPES:
            for told in maps(p, n):
                back = told.undone()
                self.assertIs(type(back), Monomial)
                self.assertEqual(told.after(back), identity(p, n))
                self.assertEqual(back.after(told), identity(p, n))
                self.assertEqual(back.undone(), told)
                for word in all_words(p, n):
                    self.assertEqual(back.carried(told.carried(word)), word)

    def test_unlike_maps(self):
        told = [identity(p, n) for p in PRIMES for n in (0, 1, 3)]
        for one, other in product(told, repeat=2):
            if one == other:
                self.assertEqual(one.after(other), one)
            else:
                with self.assertRaises(Malformed):
                    one.after(other)

    def test_arguments_stay_as_they_were(self):
        one, other = Monomial(5, (1, 2, 0), (1, 2, 3)), Monomial(5, (1, 0, 2), (2, 3, 4))
        one.after(other)
        one.undone()
        one.carried((1, 2, 3))
        self.assertEqual(fields(one), (5, (1, 2, 0), (1, 2, 3)))
        self.assertEqual(fields(other), (5, (1, 0, 2), (2, 3, 4)))


class Equality(unittest.TestCase):
    def test_equal_fields(self):
        told = [(p, places, multiples) for p, n in SHAPES if n < 3 for places, multiples in monomials(p, n)]
        for one, other in product(told, repeat=2):
            self.assertIs(Monomial(*one) == Monomial(*other), one == other)
            self.assertIs(Monomial(*one) != Monomial(*other), one != other)

    def test_other_values(self):
        told = Monomial(2, (1, 0), (1, 1))
        for value in (*ODD_VALUES, 0, (1, 0), (2, (1, 0), (1, 1)), ((1, 0), (1, 1)), zero_code(2, 2), Monomial, [told],
                      (told,), NoText(0)):
            self.assertIs(told == value, False)
            self.assertIs(told != value, True)
            self.assertIs(value == told, False)


class Identity(unittest.TestCase):
    def test_fields(self):
        self.assertEqual(fields(identity(7, 3)), (7, (0, 1, 2), (1, 1, 1)))
        for p in PRIMES:
            self.assertEqual(fields(identity(p, 0)), (p, (), ()))
            self.assertEqual(fields(identity(p, 12)), (p, tuple(range(12)), (1,) * 12))

    def test_nothing_changes(self):
        for p, n in SHAPES:
            same = identity(p, n)
            self.assertIs(type(same), Monomial)
            for word in all_words(p, n):
                self.assertEqual(same.carried(word), word)
            for told in maps(p, n):
                self.assertEqual((same.after(told), told.after(same)), (told, told))


if __name__ == "__main__":
    unittest.main()
