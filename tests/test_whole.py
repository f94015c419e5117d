import unittest

from brute import ODD_VALUES, PRIMES
from weightkeepers.errors import Refused
from weightkeepers.whole import binomial, inverse, is_integer, power

INTEGERS = (0, 1, -1, 2, 6, 7, -7, 12, 4096, -4097, 10 ** 30, -10 ** 30)


class Integers(unittest.TestCase):
    def test_integers_are_integers(self):
        for value in INTEGERS:
            self.assertIs(is_integer(value), True, value)

    def test_true_and_false_are_none(self):
        self.assertIs(is_integer(True), False)
        self.assertIs(is_integer(False), False)

    def test_other_values_are_none(self):
        for value in (*ODD_VALUES, "7", "-1", [1], (1,), {1}, int, Refused("inverse")):
            self.assertIs(is_integer(value), False, value)


class Inverse(unittest.TestCase):
    def test_tables(self):
        found = {p: [inverse(a, p) for a in range(1, p)] for p in PRIMES}
        self.assertEqual(found, {2: [1], 3: [1, 2], 5: [1, 3, 2, 4], 7: [1, 4, 5, 2, 3, 6]})

    def test_negative_and_large_integers(self):
        for p in PRIMES:
            for start in (-3 * p, -p, 0, p, 100 * p, p * 10 ** 30, -p * 10 ** 30):
                for rest in range(1, p):
                    found = inverse(start + rest, p)
                    self.assertIs(type(found), int)
                    self.assertIn(found, range(1, p))
                    self.assertEqual((start + rest) * found % p, 1)

    def test_multiples_of_the_prime_are_refused(self):
        for p in PRIMES:
            for a in (0, p, -p, 2 * p, -6 * p, p * 10 ** 30, -p * 10 ** 30):
                with self.assertRaises(Refused) as caught:
                    inverse(a, p)
                self.assertEqual(caught.exception.reason, "inverse")


class Binomial(unittest.TestCase):
    def test_pascal(self):
        row = [1]
        for n in range(31):
            self.assertEqual([binomial(n, k) for k in range(n + 1)], row)
            row = [1] + [left + right for left, right in zip(row, row[1:])] + [1]

    def test_outside_is_zero(self):
        for n in (0, 1, 2, 12, 10 ** 20):
            for k in (-1, -2, -10 ** 20, n + 1, n + 2, 2 * n + 1, n + 10 ** 30):
                self.assertEqual(binomial(n, k), 0, (n, k))

    def test_of_zero(self):
        self.assertEqual([binomial(0, k) for k in (-2, -1, 0, 1, 2)], [0, 0, 1, 0, 0])

    def test_large(self):
        self.assertEqual(binomial(10 ** 20, 1), 10 ** 20)
        self.assertEqual(binomial(10 ** 20, 10 ** 20), 1)
        self.assertEqual(binomial(100, 50), 100891344545564193334812497256)


class Power(unittest.TestCase):
    def test_exponent_zero(self):
        for a in INTEGERS:
            self.assertEqual(power(a, 0), 1, a)

    def test_repeated_products(self):
        for a in INTEGERS:
            expected = 1
            for k in range(20):
                self.assertEqual(power(a, k), expected, (a, k))
                expected *= a

    def test_large_exponents_end(self):
        self.assertEqual(power(1, 10 ** 30), 1)
        self.assertEqual(power(-1, 10 ** 30 + 1), -1)
        self.assertEqual(power(0, 10 ** 30), 0)
        self.assertEqual(power(2, 1000), 1 << 1000)

    def test_results_are_integers(self):
        for found in (power(2, 0), power(0, 0), power(3, 4), binomial(4, 2), binomial(4, 5), binomial(4, -1)):
            self.assertIs(type(found), int)


if __name__ == "__main__":
    unittest.main()
