import unittest
from itertools import product

from brute import (ODD_VALUES, PRIMES, all_words, known_codes, product_of, sample_codes, small_codes, small_tables,
                   sum_words)
from weightkeepers.build import (direct_sum, extended, of_parity_checks, plotkin_sum, product_code, punctured,
                                 repetition_code, shortened, whole_code, zero_code, zero_sum_code)
from weightkeepers.code import Code
from weightkeepers.errors import Malformed, Refused

# The greatest dimension of a code of at most 4096 words.
DEEPEST = {2: 12, 3: 7, 5: 5, 7: 4}


def units(n, k):
    """The first k unit words of the length n."""
    return tuple(tuple(int(at == place) for at in range(n)) for place in range(k))


def coded():
    """Tuples (code, words) of all codes of small lengths and some others."""
    return [(Code(p, n, rows), words) for p, n, rows, words in small_codes() + sample_codes()]


def small_pairs():
    """Tuples (a, words of a, b, words of b) of codes over one p."""
    told = [(Code(p, n, rows), words) for p, n, rows, words in small_codes() if p ** n <= 9]
    return [(a, of_a, b, of_b) for (a, of_a), (b, of_b) in product(told, repeat=2) if a.p == b.p]


class Building(unittest.TestCase):
    def assert_malformed(self, function, *arguments):
        with self.assertRaises(Malformed):
            function(*arguments)

    def assert_refused(self, reason, function, *arguments):
        with self.assertRaises(Refused) as caught:
            function(*arguments)
        self.assertEqual(caught.exception.reason, reason)

    def assert_words(self, code, p, n, words):
        """The code has exactly the words."""
        self.assertIs(type(code), Code)
        self.assertEqual((code.p, code.n, list(code.words())), (p, n, sorted(words)))


class Told(Building):
    def test_the_words(self):
        for p in PRIMES:
            for n in range(5):
                words = all_words(p, n)
                self.assert_words(zero_code(p, n), p, n, words[:1])
                self.assert_words(whole_code(p, n), p, n, words)
                self.assert_words(repetition_code(p, n), p, n, {(a,) * n for a in range(p)})
                self.assert_words(zero_sum_code(p, n), p, n, [word for word in words if sum(word) % p == 0])

    def test_the_example(self):
        found = [word for word in zero_sum_code(2, 3).words()]
        self.assertEqual(found, [(0, 0, 0), (0, 1, 1), (1, 0, 1), (1, 1, 0)])

    def test_the_greatest_length(self):
        for p in PRIMES:
            self.assertEqual(zero_code(p, 12).k, 0)
            self.assertEqual(repetition_code(p, 12).rows, ((1,) * 12,))
        self.assertEqual(whole_code(2, 12).size(), 4096)
        self.assertEqual(zero_sum_code(2, 12).size(), 2048)

    def test_too_many_words(self):
        for p in PRIMES:
            for n in range(13):
                if n > DEEPEST[p]:
                    self.assert_refused("large", whole_code, p, n)
                else:
                    self.assertEqual(whole_code(p, n).k, n)
                if n > DEEPEST[p] + 1:
                    self.assert_refused("large", zero_sum_code, p, n)
                elif n > 0:
                    self.assertEqual(zero_sum_code(p, n).k, n - 1)

    def test_wrong_primes_and_lengths(self):
        for function in (zero_code, whole_code, repetition_code, zero_sum_code):
            for p in (*ODD_VALUES, 0, 1, 4, -2, 11):
                self.assert_malformed(function, p, 2)
                self.assert_malformed(function, p, 13)
            for n in (*ODD_VALUES, -1, -10 ** 30):
                for p in PRIMES:
                    self.assert_malformed(function, p, n)
            for p in PRIMES:
                for n in (13, 14, 10 ** 30):
                    self.assert_refused("length", function, p, n)


class ParityChecks(Building):
    def test_against_all_words(self):
        for p, n, rows in small_tables():
            expected = [word for word in all_words(p, n) if not any(product_of(word, row, p) for row in rows)]
            self.assert_words(of_parity_checks(p, n, rows), p, n, expected)

    def test_the_checks_of_a_code_tell_it(self):
        for p, n, rows, words in sample_codes():
            code = Code(p, n, rows)
            self.assertEqual(of_parity_checks(p, n, code.checks()), code)
            self.assertEqual(of_parity_checks(p, n, list(code.checks()) * 2), code)

    def test_large_is_said_of_the_told_code_alone(self):
        for p in PRIMES:
            found = of_parity_checks(p, 12, units(12, 12))
            self.assertEqual(found, zero_code(p, 12))
            found = of_parity_checks(p, 12, units(12, 12 - DEEPEST[p]))
            self.assertEqual(found.k, DEEPEST[p])
            if p != 2:
                self.assert_refused("large", of_parity_checks, p, 12, units(12, 12 - DEEPEST[p] - 1))
                self.assert_refused("large", of_parity_checks, p, 12, ())

    def test_errors_as_of_a_code(self):
        for p in (*ODD_VALUES, 4, 0):
            self.assert_malformed(of_parity_checks, p, 2, ((1, 0),))
            self.assert_malformed(of_parity_checks, p, 13, None)
        for n in (*ODD_VALUES, -1):
            self.assert_malformed(of_parity_checks, 2, n, ())
        for rows in ((), None, ((0,) * 13,), ((7,),)):
            self.assert_refused("length", of_parity_checks, 2, 13, rows)
        for rows in (None, 0, "11", {(0, 0)}, ((0,),), ((0, 2),), ((True, 0),), [[0, 1]], ((0, 1), None), (0, 1)):
            self.assert_malformed(of_parity_checks, 2, 2, rows)
        self.assert_malformed(of_parity_checks, 7, 12, ((7,) * 12,))

    def test_lists_stay_as_they_were(self):
        rows = [(1, 1, 0), (0, 0, 0), (0, 1, 2)]
        kept = list(rows)
        of_parity_checks(3, 3, rows)
        self.assertEqual(rows, kept)


class Sums(Building):
    def test_direct_sums(self):
        for a, of_a, b, of_b in small_pairs():
            self.assert_words(direct_sum(a, b), a.p, a.n + b.n, [u + v for u in of_a for v in of_b])

    def test_plotkin_sums(self):
        for a, of_a, b, of_b in small_pairs():
            if a.n == b.n:
                expected = [u + sum_words(u, v, a.p) for u in of_a for v in of_b]
                self.assert_words(plotkin_sum(a, b), a.p, 2 * a.n, expected)
            else:
                self.assert_malformed(plotkin_sum, a, b)

    def test_product_codes(self):
        for a, of_a, b, of_b in small_pairs():
            if a.n * b.n <= 6:
                products = [tuple(x * y % a.p for x in u for y in v) for u in of_a for v in of_b]
                self.assertEqual(product_code(a, b), Code(a.p, a.n * b.n, products))

    def test_product_codes_told(self):
        a, b = Code(3, 2, ((1, 2),)), Code(3, 3, ((1, 0, 2), (0, 1, 1)))
        self.assertEqual(str(product_code(a, b)), "3 6: 102201 011022")
        self.assertEqual(str(product_code(b, a)), "3 6: 120021 001212")
        self.assertEqual(product_code(zero_code(5, 0), whole_code(5, 3)), zero_code(5, 0))

    def test_unlike_primes(self):
        codes = [zero_code(p, n) for p in PRIMES for n in (0, 1, 12)] + [whole_code(3, 7), whole_code(2, 7)]
        for a, b in product(codes, repeat=2):
            if a.p != b.p:
                for function in (direct_sum, plotkin_sum, product_code):
                    self.assert_malformed(function, a, b)

    def test_lengths_above_12(self):
        for p in PRIMES:
            self.assertEqual(direct_sum(zero_code(p, 5), zero_code(p, 7)), zero_code(p, 12))
            self.assert_refused("length", direct_sum, zero_code(p, 6), zero_code(p, 7))
            self.assertEqual(plotkin_sum(zero_code(p, 6), zero_code(p, 6)), zero_code(p, 12))
            self.assert_refused("length", plotkin_sum, zero_code(p, 7), zero_code(p, 7))
            self.assertEqual(product_code(zero_code(p, 3), zero_code(p, 4)), zero_code(p, 12))
            self.assert_refused("length", product_code, zero_code(p, 2), zero_code(p, 7))
            self.assert_refused("length", product_code, zero_code(p, 12), zero_code(p, 12))

    def test_the_length_is_refused_before_the_size(self):
        self.assert_refused("length", direct_sum, whole_code(3, 7), whole_code(3, 6))
        self.assert_refused("length", plotkin_sum, whole_code(3, 7), whole_code(3, 7))
        self.assert_refused("length", product_code, whole_code(3, 7), whole_code(3, 2))
        self.assert_malformed(plotkin_sum, whole_code(3, 7), whole_code(3, 6))

    def test_too_many_words(self):
        self.assertEqual(direct_sum(whole_code(3, 4), whole_code(3, 3)), whole_code(3, 7))
        self.assert_refused("large", direct_sum, whole_code(3, 4), whole_code(3, 4))
        self.assert_refused("large", plotkin_sum, whole_code(5, 3), whole_code(5, 3))
        self.assert_refused("large", product_code, whole_code(7, 2), whole_code(7, 3))
        self.assertEqual(product_code(whole_code(7, 2), whole_code(7, 2)), whole_code(7, 4))


class OneCode(Building):
    def test_punctured(self):
        for code, words in coded():
            for at in range(code.n):
                expected = {word[:at] + word[at + 1:] for word in words}
                self.assert_words(punctured(code, at), code.p, code.n - 1, expected)

    def test_shortened(self):
        for code, words in coded():
            for at in range(code.n):
                expected = [word[:at] + word[at + 1:] for word in words if word[at] == 0]
                self.assert_words(shortened(code, at), code.p, code.n - 1, expected)

    def test_extended(self):
        for code, words in coded():
            expected = [word + (-sum(word) % code.p,) for word in words]
            self.assert_words(extended(code), code.p, code.n + 1, expected)

    def test_large_codes(self):
        for p, n, rows in known_codes():
            code = Code(p, n, rows)
            words = list(code.words())
            self.assertEqual(set(punctured(code, 3).words()), {word[:3] + word[4:] for word in words})
            self.assertEqual(set(shortened(code, 3).words()), {word[:3] + word[4:] for word in words if not word[3]})

    def test_no_such_place(self):
        places = [*ODD_VALUES, -1, -2, 3, 4, 10 ** 30, -10 ** 30, "0", (0,), 1.5, Malformed("at")]
        for function in (punctured, shortened):
            for p in PRIMES:
                for at in places:
                    for code in (whole_code(p, 3), zero_code(p, 3), repetition_code(p, 3)):
                        self.assert_malformed(function, code, at)
                for at in (0, -1, 1, None):
                    self.assert_malformed(function, zero_code(p, 0), at)

    def test_the_lengths_0_and_1(self):
        for p in PRIMES:
            for function in (punctured, shortened):
                self.assertEqual(function(whole_code(p, 1), 0), zero_code(p, 0))
                self.assertEqual(function(zero_code(p, 1), 0), zero_code(p, 0))
            self.assertEqual(extended(zero_code(p, 0)), zero_code(p, 1))
            self.assertEqual(extended(whole_code(p, 1)).rows, ((1, p - 1),))

    def test_extended_to_a_length_above_12(self):
        for p in PRIMES:
            self.assertEqual(extended(zero_code(p, 11)), zero_code(p, 12))
            self.assert_refused("length", extended, zero_code(p, 12))
            self.assert_refused("length", extended, repetition_code(p, 12))
        self.assertEqual(extended(whole_code(2, 11)), zero_sum_code(2, 12))

    def test_duals_of_punctured_codes_are_shortened_duals(self):
        for p, n, rows, words in sample_codes():
            code = Code(p, n, rows)
            for at in range(n):
                self.assertEqual(punctured(code, at).dual(), shortened(code.dual(), at))


class Arguments(unittest.TestCase):
    def test_codes_stay_as_they_were(self):
        code, other = Code(3, 3, ((1, 0, 2), (0, 1, 1))), Code(3, 3, ((1, 1, 1),))
        direct_sum(code, other)
        plotkin_sum(code, other)
        product_code(code, other)
        for at in range(3):
            punctured(code, at)
            shortened(code, at)
        extended(code)
        self.assertEqual((str(code), code.checks()), ("3 3: 102 011", Code(3, 3, [(1, 0, 2), (0, 1, 1)]).checks()))
        self.assertEqual((str(other), other.k), ("3 3: 111", 1))


if __name__ == "__main__":
    unittest.main()
