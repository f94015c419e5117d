import unittest
from functools import cache
from itertools import product

from brute import ODD_VALUES, PRIMES, all_words, product_of, small_codes
from weightkeepers.build import repetition_code, whole_code, zero_code, zero_sum_code
from weightkeepers.code import Code, common_part, read_code, sum_of
from weightkeepers.cyclic import (all_cyclic, check_polynomial, common_divisor, cyclic_code, divided,
                                  divisors_of_unit, factors_of_unit, generator_polynomial, is_cyclic, shifted, times,
                                  unit_polynomial)
from weightkeepers.errors import Malformed, NoText, Refused

# The primes and lengths for which all monic polynomials are gone over.
SHAPES = [(2, n) for n in range(1, 9)] + [(3, n) for n in range(1, 7)] + [(5, n) for n in range(1, 5)]
SHAPES += [(7, n) for n in range(1, 4)]
ALL_SHAPES = [(p, n) for p in PRIMES for n in range(1, 13)]


def polynomials(p, most):
    """All polynomials of a degree of at most `most`, in order."""
    found = [()]
    for degree in range(most + 1):
        found += sorted(low + (head,) for low in all_words(p, degree) for head in range(1, p))
    return found


def monic(p, degree):
    """All monic polynomials of a degree, ascending."""
    return [low + (1,) for low in all_words(p, degree)]


def coefficient(a, at):
    """The coefficient of a power of x."""
    return a[at] if at < len(a) else 0


def plain_product(a, b, p):
    """The product, coefficient by coefficient."""
    items = [sum(coefficient(a, i) * coefficient(b, at - i) for i in range(at + 1)) % p
             for at in range(len(a) + len(b))]
    while items and items[-1] == 0:
        items.pop()
    return tuple(items)


def plain_sum(a, b, p):
    """The sum, coefficient by coefficient."""
    items = [(coefficient(a, at) + coefficient(b, at)) % p for at in range(max(len(a), len(b)))]
    while items and items[-1] == 0:
        items.pop()
    return tuple(items)


def plain_unit(p, n):
    """The polynomial x^n - 1."""
    return (p - 1,) + (0,) * (n - 1) + (1,)


@cache
def plain_divisors(p, n):
    """All monic divisors of x^n - 1: a pair of monic polynomials whose product it is, by trial."""
    found = []
    for degree in range(n + 1):
        found += [g for g in monic(p, degree)
                  if any(plain_product(g, h, p) == plain_unit(p, n) for h in monic(p, n - degree))]
    return tuple(found)


def order(a):
    """Polynomials are put in order of their degrees, then as tuples."""
    return len(a), a


def trimmed(word):
    """The polynomial of a word."""
    items = list(word)
    while items and items[-1] == 0:
        items.pop()
    return tuple(items)


def turned(word):
    """The shift, item by item."""
    return tuple(word[at - 1] for at in range(len(word)))


class Refusing(unittest.TestCase):
    def assert_refused(self, reason, function, *arguments):
        with self.assertRaises(Refused) as caught:
            function(*arguments)
        self.assertEqual(caught.exception.reason, reason)

    def assert_checks_of_the_unit(self, function):
        """The errors for wrong primes and lengths come first, in their order."""
        primes = [*ODD_VALUES, 0, 1, 4, 6, 9, 11, -2, 10 ** 30, (2,), "2", zero_code(2, 1), NoText(2)]
        for p in primes:
            for n in (3, 0, 13, None):
                with self.assertRaises(Malformed):
                    function(p, n)
        for p in PRIMES:
            for n in (*ODD_VALUES, 0, -1, -13, (3,), "3", [3], zero_code(2, 3), NoText(3)):
                with self.assertRaises(Malformed):
                    function(p, n)
            for n in (13, 14, 10 ** 30):
                self.assert_refused("length", function, p, n)


class Polynomials(Refusing):
    def test_told(self):
        self.assertEqual(times((1, 1), (1, 1), 2), (1, 0, 1))
        self.assertEqual(times((1, 2, 3), (4, 0, 5), 7), (4, 1, 3, 3, 1))
        self.assertEqual(divided((4, 1, 3, 3, 1), (4, 0, 5), 7), ((1, 2, 3), ()))
        self.assertEqual(divided((4, 0, 1), (1, 2), 5), ((1, 3), (3,)))
        self.assertEqual(divided((1, 2), (4, 0, 1), 5), ((), (1, 2)))
        self.assertEqual(common_divisor((4, 0, 1), (2, 3, 1), 5), (1, 1))
        self.assertEqual(common_divisor((3, 3), (), 7), (1, 1))

    def test_products(self):
        for p, most in ((2, 3), (3, 2), (5, 1), (7, 1)):
            for a, b in product(polynomials(p, most), repeat=2):
                self.assertEqual(times(a, b, p), plain_product(a, b, p))

    def test_quotients_and_remainders(self):
        for p, most, other in ((2, 5, 3), (3, 3, 2), (5, 2, 1), (7, 2, 1)):
            for a, b in product(polynomials(p, most), polynomials(p, other)[1:]):
                quotient, rest = divided(a, b, p)
                self.assertEqual(plain_sum(plain_product(quotient, b, p), rest, p), a)
                self.assertLess(len(rest), len(b))
                for found in (quotient, rest):
                    self.assertIs(type(found), tuple)
                    self.assertEqual(found, trimmed(found))
                    self.assertTrue(all(type(item) is int and 0 <= item < p for item in found))

    def test_zero(self):
        for p in PRIMES:
            self.assertEqual(times((), (), p), ())
            self.assertEqual(times((1, 1), (), p), ())
            self.assertEqual(times((), (1, 1), p), ())
            self.assertEqual(divided((), (1, 1), p), ((), ()))
            self.assertEqual(divided((), (p - 1,), p), ((), ()))
            self.assertEqual(common_divisor((), (), p), ())
            self.assertEqual(common_divisor((), (1, p - 1), p), ((p - 1) % p, 1))
            for a in ((), (1,), (1, 1), (0, 0, 1)):
                self.assert_refused("zero", divided, a, (), p)

    def test_common_divisors(self):
        for p, most in ((2, 4), (3, 2), (5, 2)):
            for a, b in product(polynomials(p, most)[::2], polynomials(p, most)):
                found = common_divisor(a, b, p)
                both = [g for degree in range(most + 1) for g in monic(p, degree)
                        if divided(a, g, p)[1] == () and divided(b, g, p)[1] == ()]
                self.assertEqual(found, both[-1] if a or b else ())

    def test_large_polynomials(self):
        a, b = tuple(at * at % 7 for at in range(200)) + (3,), tuple((at + 3) % 7 for at in range(90)) + (5,)
        whole = times(a, b, 7)
        self.assertEqual(whole, plain_product(a, b, 7))
        self.assertEqual(divided(whole, b, 7), (a, ()))
        self.assertEqual(divided(plain_sum(whole, (1, 2, 3), 7), b, 7), (a, (1, 2, 3)))


class Units(Refusing):
    def test_the_unit_polynomial(self):
        self.assertEqual(unit_polynomial(2, 1), (1, 1))
        self.assertEqual(unit_polynomial(7, 3), (6, 0, 0, 1))
        for p, n in ALL_SHAPES:
            self.assertEqual(unit_polynomial(p, n), plain_unit(p, n))

    def test_factors_told(self):
        self.assertEqual(factors_of_unit(2, 6), (((1, 1), 2), ((1, 1, 1), 2)))
        self.assertEqual(factors_of_unit(2, 7), (((1, 1), 1), ((1, 0, 1, 1), 1), ((1, 1, 0, 1), 1)))
        self.assertEqual(factors_of_unit(7, 1), (((6, 1), 1),))
        self.assertEqual(factors_of_unit(7, 7), (((6, 1), 7),))
        self.assertEqual(factors_of_unit(3, 9), (((2, 1), 9),))
        self.assertEqual([len(told) for told, _ in factors_of_unit(7, 11)], [2, 11])

    def test_factors_by_trial(self):
        for p, n in SHAPES:
            irreducible = [g for g in plain_divisors(p, n)[1:]
                           if not any(divided(g, h, p)[1] == () for h in plain_divisors(p, n)[1:] if len(h) < len(g))]
            self.assertEqual([told for told, _ in factors_of_unit(p, n)], irreducible)

    def test_factors_of_all_lengths(self):
        for p, n in ALL_SHAPES:
            found = factors_of_unit(p, n)
            self.assertIs(type(found), tuple)
            self.assertEqual(list(found), sorted(found, key=lambda pair: order(pair[0])))
            whole = (1,)
            for factor, exponent in found:
                self.assertEqual(factor[-1], 1)
                self.assertEqual(exponent, max(p ** e for e in range(5) if n % p ** e == 0))
                for _ in range(exponent):
                    whole = plain_product(whole, factor, p)
                self.assert_irreducible(factor, p)
            self.assertEqual(whole, plain_unit(p, n))

    def assert_irreducible(self, factor, p):
        """The factor has no divisor of at most half of its degree, and of the degree 3 at most."""
        for degree in range(1, min((len(factor) - 1) // 2, 3) + 1):
            for g in monic(p, degree):
                self.assertNotEqual(divided(factor, g, p)[1], ())

    def test_divisors_by_trial(self):
        for p, n in SHAPES:
            self.assertEqual(divisors_of_unit(p, n), plain_divisors(p, n))

    def test_divisors_of_all_lengths(self):
        for p, n in ALL_SHAPES:
            found = divisors_of_unit(p, n)
            count = 1
            for _, exponent in factors_of_unit(p, n):
                count *= exponent + 1
            self.assertIs(type(found), tuple)
            self.assertEqual(len(found), count)
            self.assertEqual(list(found), sorted(set(found), key=order))
            self.assertEqual((found[0], found[-1]), ((1,), plain_unit(p, n)))
            for g in found:
                self.assertEqual((g[-1], divided(plain_unit(p, n), g, p)[1]), (1, ()))

    def test_wrong_primes_and_lengths(self):
        for function in (unit_polynomial, factors_of_unit, divisors_of_unit, all_cyclic):
            self.assert_checks_of_the_unit(function)


class Cyclic(Refusing):
    def test_shifts(self):
        self.assertEqual(shifted((1, 2, 3)), (3, 1, 2))
        self.assertEqual(shifted((4,)), (4,))
        for p, n in ((2, 5), (3, 3), (7, 2)):
            for word in all_words(p, n):
                self.assertEqual(shifted(word), turned(word))

    def test_the_polynomial_of_the_shift(self):
        for p, n in ((2, 4), (3, 3), (5, 2)):
            for word in all_words(p, n):
                found = plain_product((0, 1), trimmed(word), p)
                _, rest = divided(found, plain_unit(p, n), p)
                self.assertEqual(trimmed(shifted(word)), rest)

    def test_is_cyclic(self):
        for p, n, rows, words in small_codes():
            expected = n > 0 and all(turned(word) in words for word in words)
            self.assertIs(is_cyclic(Code(p, n, rows)), expected)

    def test_known_cyclic_codes(self):
        for p in PRIMES:
            self.assertIs(is_cyclic(zero_code(p, 0)), False)
            for n in range(1, 13):
                self.assertIs(is_cyclic(zero_code(p, n)), True)
                self.assertIs(is_cyclic(repetition_code(p, n)), True)
            for n in range(1, 5):
                self.assertIs(is_cyclic(whole_code(p, n)), True)
                self.assertIs(is_cyclic(zero_sum_code(p, n)), True)
        self.assertIs(is_cyclic(read_code("2 7: 1000110 0100011 0010111 0001101")), True)
        self.assertIs(is_cyclic(read_code("2 7: 1000011 0100101 0010110 0001111")), False)
        self.assertIs(is_cyclic(read_code("2 3: 100")), False)

    def test_the_code_of_each_divisor(self):
        for p, n in SHAPES:
            for g in plain_divisors(p, n):
                if p ** (n + 1 - len(g)) <= 4096:
                    code = cyclic_code(p, n, g)
                    self.assertIs(type(code), Code)
                    self.assertEqual((code.p, code.n, code.k), (p, n, n + 1 - len(g)))
                    multiples = [word for word in all_words(p, n) if divided(trimmed(word), g, p)[1] == ()]
                    self.assertEqual(list(code.words()), multiples)
                    self.assertIs(is_cyclic(code), True)
                    self.assertEqual(generator_polynomial(code), g)
                    self.assertEqual(plain_product(check_polynomial(code), g, p), plain_unit(p, n))

    def test_wrong_primes_and_lengths(self):
        for g in ((1,), (1, 1), (), None, [1], True):
            self.assert_checks_of_the_unit(lambda p, n: cyclic_code(p, n, g))

    def test_no_monic_divisors(self):
        values = [*ODD_VALUES, 0, 1, [1], [2, 1], (0,), (2,), (2, 2), (1, 2), (1, 0), (2, 1, 0), (0, 1), (True,),
                  (2, True), (-1, 1), (5, 1), (2, 4), ("2", "1"), (None, 1), ((1,),), (2, 1.0), "21", (1, 1, 0, 1, 1),
                  (0, 0, 0, 0, 1), (2, 0, 0, 0, 1), (1,) * 30, (2, 0, 0, 1, 0), (1, 1, 1, 1, 1), zero_code(3, 4),
                  NoText(1), (0, 1, 1), (1, 2, 0, 1)]
        for g in values:
            with self.assertRaises(Malformed):
                cyclic_code(3, 3, g)
        for p, n in SHAPES[:14]:
            for degree in range(n + 2):
                for g in monic(p, degree):
                    if g not in plain_divisors(p, n):
                        with self.assertRaises(Malformed):
                            cyclic_code(p, n, g)

    def test_codes_with_too_many_words(self):
        for p, n in ((7, 5), (5, 6), (3, 8), (7, 12)):
            self.assert_refused("large", cyclic_code, p, n, (1,))
        # No monic divisor comes before too many words.
        with self.assertRaises(Malformed):
            cyclic_code(7, 5, (2,))
        self.assertEqual(cyclic_code(2, 12, (1,)), whole_code(2, 12))
        self.assertEqual(cyclic_code(7, 5, (6, 1)), zero_sum_code(7, 5))

    def test_all_cyclic_codes(self):
        for p, n in ((2, 1), (2, 2), (2, 3), (2, 4), (3, 1), (3, 2), (3, 3), (5, 1), (5, 2), (7, 1), (7, 2)):
            expected = [Code(p, n, rows) for q, m, rows, words in small_codes()
                        if (q, m) == (p, n) and all(turned(word) in words for word in words)]
            found = all_cyclic(p, n)
            self.assertIs(type(found), tuple)
            self.assertEqual(sorted(map(str, found)), sorted(map(str, expected)))

    def test_cyclic_codes_of_all_lengths(self):
        for p, n in ALL_SHAPES:
            expected = [g for g in divisors_of_unit(p, n) if p ** (n + 1 - len(g)) <= 4096]
            self.assertEqual([generator_polynomial(code) for code in all_cyclic(p, n)], expected)
        # Some of them are left out.
        self.assertEqual((len(divisors_of_unit(7, 6)), len(all_cyclic(7, 6))), (64, 57))
        self.assertEqual((len(divisors_of_unit(7, 5)), len(all_cyclic(7, 5))), (4, 3))

    def test_generators_told(self):
        hamming = read_code("2 7: 1000110 0100011 0010111 0001101")
        self.assertEqual(generator_polynomial(hamming), (1, 1, 0, 1))
        self.assertEqual(check_polynomial(hamming), (1, 1, 1, 0, 1))
        self.assertEqual(generator_polynomial(repetition_code(5, 4)), (1, 1, 1, 1))
        self.assertEqual(check_polynomial(repetition_code(5, 4)), (4, 1))
        for p in PRIMES:
            for n in range(1, 5):
                self.assertEqual(generator_polynomial(zero_code(p, n)), plain_unit(p, n))
                self.assertEqual(check_polynomial(zero_code(p, n)), (1,))
                self.assertEqual(generator_polynomial(whole_code(p, n)), (1,))
                self.assertEqual(check_polynomial(whole_code(p, n)), plain_unit(p, n))

    def test_generators_are_the_least_polynomials(self):
        for p, n in SHAPES:
            for code in all_cyclic(p, n):
                if 1 < code.size() <= 243:
                    least = min([trimmed(word) for word in code.words() if any(word) and trimmed(word)[-1] == 1],
                                key=order)
                    self.assertEqual(generator_polynomial(code), least)

    def test_codes_that_are_not_cyclic(self):
        codes = [zero_code(p, 0) for p in PRIMES]
        codes += [Code(p, n, rows) for p, n, rows, words in small_codes()
                  if any(turned(word) not in words for word in words)]
        self.assertGreater(len(codes), 100)
        for code in codes:
            self.assert_refused("cyclic", generator_polynomial, code)
            self.assert_refused("cyclic", check_polynomial, code)

    def test_duals(self):
        for p, n in SHAPES:
            for code in all_cyclic(p, n):
                if p ** (n - code.k) <= 4096:
                    dual = code.dual()
                    self.assertIs(is_cyclic(dual), True)
                    check = check_polynomial(code)
                    inverse = [a for a in range(1, p) if a * check[0] % p == 1][0]
                    self.assertEqual(generator_polynomial(dual), tuple(item * inverse % p for item in check[::-1]))
                    self.assertEqual({product_of(v, w, p) for v in code.rows for w in dual.rows} | {0}, {0})

    def test_sums_and_common_parts(self):
        for p, n in ((2, 6), (2, 7), (3, 4), (3, 6), (5, 4), (7, 3)):
            for a, b in product(all_cyclic(p, n), repeat=2):
                g, h = generator_polynomial(a), generator_polynomial(b)
                common = common_divisor(g, h, p)
                self.assertEqual(generator_polynomial(sum_of(a, b)), common)
                multiple, rest = divided(plain_product(g, h, p), common, p)
                self.assertEqual(rest, ())
                self.assertEqual(generator_polynomial(common_part(a, b)), multiple)

    def test_arguments_stay_as_they_were(self):
        code = read_code("2 7: 1000110 0100011 0010111 0001101")
        generator_polynomial(code)
        check_polynomial(code)
        is_cyclic(code)
        self.assertEqual(str(code), "2 7: 1000110 0100011 0010111 0001101")


if __name__ == "__main__":
    unittest.main()
