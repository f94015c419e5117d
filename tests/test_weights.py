import unittest
from itertools import combinations, product
from math import comb

from brute import (ODD_VALUES, PRIMES, all_words, counted_weights, distance_of, known_codes, product_of, sample_codes,
                   small_codes, sum_words, weight_of)
from weightkeepers.build import repetition_code, whole_code, zero_code, zero_sum_code
from weightkeepers.code import Code
from weightkeepers.errors import Malformed, Refused
from weightkeepers.weights import (ball_size, binomial_moment, coset_distribution, griesmer_length, is_mds, is_perfect,
                                   krawtchouk, macwilliams, minimum_distance, minimum_words, reaches_griesmer,
                                   weight_distribution)


def coded():
    """Tuples (code, words) of all codes of small lengths and some others."""
    return [(Code(p, n, rows), words) for p, n, rows, words in small_codes() + sample_codes()]


def known():
    """The known codes by short names."""
    names = ("hamming", "tetracode", "golay", "longer golay", "five", "seven", "whole")
    return {name: Code(p, n, rows) for name, (p, n, rows) in zip(names, known_codes())}


class Distributions(unittest.TestCase):
    def test_against_counting(self):
        for code, words in coded():
            found = weight_distribution(code)
            self.assertIs(type(found), tuple)
            self.assertEqual(found, counted_weights(words, code.n))
            self.assertEqual((sum(found), found[0]), (code.size(), 1))

    def test_known_distributions(self):
        codes = known()
        self.assertEqual(weight_distribution(codes["hamming"]), (1, 0, 0, 7, 7, 0, 0, 1))
        self.assertEqual(weight_distribution(codes["golay"]), (1, 0, 0, 0, 0, 132, 132, 0, 330, 110, 0, 24))
        self.assertEqual(weight_distribution(codes["whole"]), tuple(comb(12, w) for w in range(13)))
        self.assertEqual(weight_distribution(zero_code(7, 3)), (1, 0, 0, 0))
        self.assertEqual(weight_distribution(zero_code(7, 0)), (1,))

    def test_cosets_against_counting(self):
        for p, n, rows, words in small_codes():
            code = Code(p, n, rows)
            for word in all_words(p, n):
                coset = [sum_words(word, other, p) for other in words]
                self.assertEqual(coset_distribution(code, word), counted_weights(coset, n))

    def test_cosets_of_larger_codes(self):
        for p, n, rows, words in sample_codes():
            code = Code(p, n, rows)
            for word in all_words(p, n)[:: p ** n // 5]:
                coset = [sum_words(word, other, p) for other in words]
                self.assertEqual(coset_distribution(code, word), counted_weights(coset, n))

    def test_cosets_of_no_words(self):
        code = Code(3, 2, ((1, 2),))
        for value in (*ODD_VALUES, 0, "00", [0, 0], (0,), (0, 0, 0), (0, 3), (-1, 0), (True, 0), (0, False), (0, "1"),
                      (0, 1.0), code, Malformed("word")):
            with self.assertRaises(Malformed):
                coset_distribution(code, value)
        for value in ([], "", None, (0,), 0):
            with self.assertRaises(Malformed):
                coset_distribution(zero_code(3, 0), value)


class Krawtchouk(unittest.TestCase):
    def test_the_told_sum(self):
        for p in PRIMES:
            for n in range(13):
                for i, j in product(range(n + 1), repeat=2):
                    expected = sum((-1) ** s * (p - 1) ** (j - s) * comb(i, s) * comb(n - i, j - s)
                                   for s in range(j + 1))
                    self.assertEqual(krawtchouk(p, n, j, i), expected)

    def test_sums_of_signs(self):
        for n in range(6):
            for i in range(n + 1):
                x = (1,) * i + (0,) * (n - i)
                for j in range(n + 1):
                    words = [y for y in all_words(2, n) if weight_of(y) == j]
                    self.assertEqual(krawtchouk(2, n, j, i), sum((-1) ** product_of(x, y, 2) for y in words))

    def test_sums_of_roots(self):
        # The powers of a root other than 1 have the sum 0; so they give (p times those of 0, less all) / (p - 1).
        for p, n in ((3, 3), (5, 2), (7, 2), (3, 0), (5, 1)):
            for i, j in product(range(n + 1), repeat=2):
                x = (1,) * i + (0,) * (n - i)
                products = [product_of(x, y, p) for y in all_words(p, n) if weight_of(y) == j]
                expected = (p * products.count(0) - len(products)) // (p - 1)
                self.assertEqual(krawtchouk(p, n, j, i), expected)

    def test_first_and_last(self):
        self.assertEqual([krawtchouk(5, 4, 0, i) for i in range(5)], [1] * 5)
        self.assertEqual([krawtchouk(3, 4, 1, i) for i in range(5)], [8, 5, 2, -1, -4])
        self.assertEqual(krawtchouk(7, 0, 0, 0), 1)


class MacWilliams(unittest.TestCase):
    def test_the_example(self):
        self.assertEqual(macwilliams(2, 3, (1, 0, 3, 0)), (1, 0, 0, 1))

    def test_distributions_of_duals(self):
        for code, words in coded():
            numbers = counted_weights(words, code.n)
            found = macwilliams(code.p, code.n, numbers)
            self.assertIs(type(found), tuple)
            self.assertEqual(found, counted_weights(list(code.dual().words()), code.n))
            self.assertEqual(macwilliams(code.p, code.n, found), numbers)

    def test_known_codes(self):
        for name, code in known().items():
            numbers = weight_distribution(code)
            found = macwilliams(code.p, code.n, numbers)
            self.assertEqual(macwilliams(code.p, code.n, found), numbers)
            # The dual of this one has more than 4096 words.
            if name != "seven":
                self.assertEqual(found, weight_distribution(code.dual()))

    def test_duals_that_are_too_large_to_be_made(self):
        found = macwilliams(7, 12, (1,) + (0,) * 12)
        self.assertEqual(found, tuple(comb(12, w) * 6 ** w for w in range(13)))
        self.assertEqual(macwilliams(7, 12, found), (1,) + (0,) * 12)

    def test_other_numbers(self):
        self.assertEqual(macwilliams(2, 1, (1, 0)), (1, 1))
        self.assertEqual(macwilliams(2, 1, (0, 1)), (1, -1))
        self.assertEqual(macwilliams(2, 1, (3, 3)), (1, 0))
        self.assertEqual(macwilliams(3, 0, (5,)), (1,))
        self.assertEqual(macwilliams(3, 2, (0, 0, 7)), (1, -2, 1))

    def test_fractions(self):
        for p, n, numbers in ((2, 1, (2, 1)), (2, 1, (1, 2)), (2, 3, (1, 1, 1, 0)), (3, 1, (1, 1)), (7, 2, (1, 0, 1)),
                              (2, 2, (10 ** 30, 0, 1))):
            with self.assertRaises(Refused) as caught:
                macwilliams(p, n, numbers)
            self.assertEqual(caught.exception.reason, "fraction")

    def test_against_the_identity(self):
        for p, n in ((2, 2), (3, 2), (5, 1), (7, 1)):
            for numbers in product(range(4), repeat=n + 1):
                whole = sum(numbers)
                sums = [sum(a * krawtchouk(p, n, j, i) for i, a in enumerate(numbers)) for j in range(n + 1)]
                if whole == 0:
                    with self.assertRaises(Malformed):
                        macwilliams(p, n, numbers)
                elif any(found % whole for found in sums):
                    with self.assertRaises(Refused):
                        macwilliams(p, n, numbers)
                else:
                    self.assertEqual(macwilliams(p, n, numbers), tuple(found // whole for found in sums))

    def test_malformed_numbers(self):
        values = [*ODD_VALUES, 0, 1, "1030", [1, 0, 3, 0], (), (1,), (1, 0, 3), (1, 0, 3, 0, 0), (0, 0, 0, 0),
                  (1, 0, -3, 0), (4, 0, 0, -1), (-1, 0, 0, 0), (True, 0, 3, 0), (1, False, 3, 0), (1, 0, 3, None),
                  (1, 0, 3.0, 0), ("1", 0, 3, 0), ((1,), 0, 3, 0), (1, 0, 3, zero_code(2, 3)), range(4)]
        for value in values:
            with self.assertRaises(Malformed):
                macwilliams(2, 3, value)
        for value in ((0,), (), (1, 0), (True,), [1], 1, None):
            with self.assertRaises(Malformed):
                macwilliams(2, 0, value)


class Moments(unittest.TestCase):
    def test_the_told_sum(self):
        self.assertEqual(binomial_moment((1, 0, 3, 0), 0), 4)
        self.assertEqual(binomial_moment((1, 0, 3, 0), 1), 6)
        self.assertEqual(binomial_moment((1, 0, 3, 0), 3), 1)
        self.assertEqual(binomial_moment((5,), 0), 5)
        self.assertEqual(binomial_moment((-2, 7, 10 ** 30), 1), -4 + 7)
        self.assertEqual([binomial_moment((1, 2, 3), s) for s in (-1, 3, 10 ** 30)], [0, 0, 0])

    def test_pairs_of_places_and_words(self):
        for p, n, rows, words in small_codes():
            numbers = counted_weights(words, n)
            for s in range(n + 1):
                pairs = [1 for places in combinations(range(n), s) for word in words
                         if not any(word[at] for at in places)]
                self.assertEqual(binomial_moment(numbers, s), len(pairs))

    def test_the_identity(self):
        for code in [code for code, words in coded()] + list(known().values()):
            numbers = weight_distribution(code)
            others = macwilliams(code.p, code.n, numbers)
            for s in range(code.n + 1):
                left = binomial_moment(numbers, s) * code.p ** s
                self.assertEqual(left, code.size() * binomial_moment(others, code.n - s))


class LeastWeights(unittest.TestCase):
    def test_against_all_pairs(self):
        for p, n, rows, words in small_codes():
            least = min((distance_of(v, w) for v, w in combinations(words, 2)), default=None)
            self.assertEqual(minimum_distance(Code(p, n, rows)), least)

    def test_words(self):
        for code, words in coded():
            others = sorted(word for word in words if any(word))
            least = min(map(weight_of, others), default=None)
            self.assertEqual(minimum_distance(code), least)
            found = minimum_words(code)
            self.assertIs(type(found), tuple)
            self.assertEqual(list(found), [word for word in others if weight_of(word) == least])

    def test_known_codes(self):
        expected = {"hamming": 3, "tetracode": 3, "golay": 5, "longer golay": 6, "five": 5, "seven": 6, "whole": 1}
        self.assertEqual({name: minimum_distance(code) for name, code in known().items()}, expected)
        self.assertEqual(len(minimum_words(known()["longer golay"])), 264)

    def test_the_code_of_the_zero_word(self):
        for p in PRIMES:
            for n in (0, 1, 12):
                self.assertIsNone(minimum_distance(zero_code(p, n)))
                self.assertEqual(minimum_words(zero_code(p, n)), ())


class Balls(unittest.TestCase):
    def test_against_counting(self):
        for p, n in product(PRIMES, range(4)):
            center = tuple((2 * at + 1) % p for at in range(n))
            distances = [distance_of(center, word) for word in all_words(p, n)]
            for t in range(n + 3):
                self.assertEqual(ball_size(p, n, t), sum(1 for found in distances if found <= t))

    def test_all_words(self):
        for p in PRIMES:
            for t in (12, 13, 10 ** 30):
                self.assertEqual(ball_size(p, 12, t), p ** 12)
            self.assertEqual(ball_size(p, 0, 0), 1)
            self.assertEqual(ball_size(p, 12, 0), 1)


class Bounds(unittest.TestCase):
    def test_mds(self):
        for code, words in coded() + [(code, None) for code in known().values()]:
            d = minimum_distance(code)
            self.assertIs(is_mds(code), d is not None and code.k == code.n - d + 1)

    def test_perfect(self):
        for p, n, rows, words in small_codes():
            code = Code(p, n, rows)
            d = minimum_distance(code)
            if d is None:
                self.assertIs(is_perfect(code), False)
            else:
                near = [min(distance_of(word, other) for other in words) for word in all_words(p, n)]
                self.assertIs(is_perfect(code), max(near) <= (d - 1) // 2)

    def test_griesmer(self):
        for code, words in coded() + [(code, None) for code in known().values()]:
            d = minimum_distance(code)
            if d is None:
                self.assertIs(reaches_griesmer(code), False)
            else:
                bound = sum(-(-d // code.p ** i) for i in range(code.k))
                self.assertGreaterEqual(code.n, bound)
                self.assertIs(reaches_griesmer(code), code.n == bound)

    def test_known_codes(self):
        codes = known()
        reached = {name: (is_mds(code), is_perfect(code), reaches_griesmer(code)) for name, code in codes.items()}
        self.assertEqual(reached, {
            "hamming": (False, True, True),
            "tetracode": (True, True, True),
            "golay": (False, True, True),
            "longer golay": (False, False, True),
            "five": (True, False, True),
            "seven": (True, False, True),
            "whole": (True, True, True),
        })
        self.assertIs(is_perfect(repetition_code(2, 11)), True)
        self.assertIs(is_perfect(repetition_code(2, 12)), False)
        self.assertIs(is_perfect(repetition_code(3, 11)), False)
        self.assertIs(is_mds(zero_sum_code(5, 5)), True)
        self.assertIs(is_perfect(whole_code(7, 1)), True)
        self.assertIs(reaches_griesmer(Code(2, 5, ((1, 1, 1, 0, 0),))), False)

    def test_the_code_of_the_zero_word(self):
        for p in PRIMES:
            for n in (0, 1, 2, 12):
                for function in (is_mds, is_perfect, reaches_griesmer):
                    self.assertIs(function(zero_code(p, n)), False)

    def test_griesmer_lengths(self):
        self.assertEqual(griesmer_length(2, 3, 4), 7)
        self.assertEqual(griesmer_length(3, 6, 6), 12)
        self.assertEqual(griesmer_length(2, 12, 7), 22)
        for p in PRIMES:
            for k in range(1, 14):
                for d in range(1, 60):
                    expected = sum((d + p ** i - 1) // p ** i for i in range(k))
                    self.assertEqual(griesmer_length(p, k, d), expected)

    def test_griesmer_lengths_of_large_numbers(self):
        self.assertEqual(griesmer_length(2, 10 ** 30, 1), 10 ** 30)
        self.assertEqual(griesmer_length(7, 10 ** 30, 8), 10 ** 30 + 8)
        self.assertEqual(griesmer_length(2, 1, 10 ** 30), 10 ** 30)
        self.assertEqual(griesmer_length(2, 3, 2 ** 100), 2 ** 100 + 2 ** 99 + 2 ** 98)
        self.assertEqual(griesmer_length(2, 2, 2 ** 100 + 1), 2 ** 100 + 1 + 2 ** 99 + 1)


class Arguments(unittest.TestCase):
    def test_codes_stay_as_they_were(self):
        code = Code(3, 3, ((1, 0, 2), (0, 1, 1)))
        for function in (weight_distribution, minimum_distance, minimum_words, is_mds, is_perfect, reaches_griesmer):
            self.assertEqual(function(code), function(code))
        self.assertEqual(coset_distribution(code, (1, 1, 1)), coset_distribution(code, (1, 1, 1)))
        self.assertEqual((str(code), code.k, code.size()), ("3 3: 102 011", 2, 9))


if __name__ == "__main__":
    unittest.main()
