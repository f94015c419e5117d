import unittest
from itertools import product

from brute import (ODD_VALUES, PRIMES, all_words, distance_of, known_codes, sample_codes, small_codes, sum_words,
                   weight_of)
from weightkeepers.build import direct_sum, repetition_code, whole_code, zero_code
from weightkeepers.code import Code
from weightkeepers.errors import Malformed, NoText, Refused
from weightkeepers.nearest import (coset_leaders, cosets, count_decided, covering_radius, distance_to, nearest_words)
from weightkeepers.weights import minimum_distance

# The greatest length, over each prime, of the words that a code of the zero word alone has cosets for.
LONGEST = {2: 12, 3: 7, 5: 5, 7: 4}


def lightest(words):
    """The words of the least weight, ascending."""
    least = min(map(weight_of, words))
    return tuple(sorted(word for word in words if weight_of(word) == least))


def nearest_of(words, word):
    """The least distance of a word to the words, and the tuple of those at this distance, ascending."""
    distances = {other: distance_of(other, word) for other in words}
    least = min(distances.values())
    return least, tuple(sorted(other for other in words if distances[other] == least))


class OneWord(unittest.TestCase):
    def assert_right(self, code, words, word):
        """The leaders, the nearest words and the distance are those that going over all words finds."""
        coset = [sum_words(word, other, code.p) for other in words]
        leaders = coset_leaders(code, word)
        self.assertIs(type(leaders), tuple)
        self.assertEqual(leaders, lightest(coset))
        distance, nearest = nearest_of(words, word)
        found = nearest_words(code, word)
        self.assertIs(type(found), tuple)
        self.assertEqual(found, nearest)
        self.assertEqual(distance_to(code, word), distance)
        self.assertEqual((len(leaders), weight_of(leaders[0])), (len(nearest), distance))
        differences = [tuple((a - b) % code.p for a, b in zip(word, leader)) for leader in leaders]
        self.assertEqual(sorted(differences), list(found))

    def test_the_example(self):
        self.assertEqual(nearest_words(Code(2, 2, ((1, 1),)), (0, 1)), ((0, 0), (1, 1)))

    def test_every_word_of_small_codes(self):
        for p, n, rows, words in small_codes():
            for word in all_words(p, n):
                self.assert_right(Code(p, n, rows), words, word)

    def test_some_words_of_larger_codes(self):
        for p, n, rows, words in sample_codes():
            for word in all_words(p, n)[:: p ** n // 6]:
                self.assert_right(Code(p, n, rows), words, word)

    def test_some_words_of_known_codes(self):
        for p, n, rows in known_codes():
            code = Code(p, n, rows)
            words = list(code.words())
            for word in ((1,) * n, tuple(at % p for at in range(n)), (0,) * n):
                self.assert_right(code, words, word)

    def test_told(self):
        code = repetition_code(3, 3)
        self.assertEqual(coset_leaders(code, (0, 1, 2)), ((0, 1, 2), (1, 2, 0), (2, 0, 1)))
        self.assertEqual(nearest_words(code, (0, 1, 2)), ((0, 0, 0), (1, 1, 1), (2, 2, 2)))
        self.assertEqual(distance_to(code, (0, 1, 2)), 2)
        self.assertEqual(coset_leaders(code, (2, 2, 0)), ((0, 0, 1),))
        self.assertEqual(nearest_words(code, (2, 2, 0)), ((2, 2, 2),))

    def test_the_length_zero_and_the_extreme_codes(self):
        for p in PRIMES:
            self.assert_right(zero_code(p, 0), [()], ())
            self.assertEqual(nearest_words(zero_code(p, 3), (0, 1, p - 1)), ((0, 0, 0),))
            self.assertEqual(coset_leaders(zero_code(p, 12), (p - 1,) * 12), ((p - 1,) * 12,))
            self.assertEqual(distance_to(zero_code(p, 12), (p - 1,) * 12), 12)
            self.assertEqual(coset_leaders(whole_code(p, 2), (1, p - 1)), ((0, 0),))
            self.assertEqual(nearest_words(whole_code(p, 2), (1, p - 1)), ((1, p - 1),))
            self.assertEqual(distance_to(whole_code(p, 2), (1, p - 1)), 0)

    def test_other_values(self):
        code = Code(3, 2, ((1, 2),))
        values = [*ODD_VALUES, 0, "00", [0, 0], (0,), (0, 0, 0), (0, 3), (3, 0), (-1, 0), (True, 0), (0, False),
                  (0, "1"), (0, 1.0), ((0, 0),), code, code.rows, NoText(0)]
        for function in (coset_leaders, nearest_words, distance_to):
            for value in values:
                with self.assertRaises(Malformed):
                    function(code, value)
            for value in ([], "", None, (0,), 0, False):
                with self.assertRaises(Malformed):
                    function(zero_code(3, 0), value)


class Cosets(unittest.TestCase):
    def assert_cosets(self, code, words):
        """The cosets are those that all words of the length are put into."""
        expected = {}
        for word in all_words(code.p, code.n):
            expected.setdefault(code.syndrome(word), []).append(word)
        found = cosets(code)
        self.assertIs(type(found), tuple)
        self.assertEqual([syndrome for syndrome, _ in found], all_words(code.p, code.n - code.k))
        for pair in found:
            self.assertIs(type(pair), tuple)
            self.assertEqual(pair[1], lightest(expected[pair[0]]))

    def assert_counted(self, code, words):
        """The covering radius and the number of decided words are those that counting finds."""
        near = [nearest_of(words, word) for word in all_words(code.p, code.n)]
        self.assertEqual(covering_radius(code), max(distance for distance, _ in near))
        self.assertEqual(count_decided(code), sum(1 for _, nearest in near if len(nearest) == 1))

    def test_small_codes(self):
        for p, n, rows, words in small_codes():
            self.assert_cosets(Code(p, n, rows), words)
            self.assert_counted(Code(p, n, rows), words)

    def test_larger_codes(self):
        for p, n, rows, words in sample_codes():
            self.assert_cosets(Code(p, n, rows), words)
            if p ** n * len(words) <= 40000:
                self.assert_counted(Code(p, n, rows), words)

    def test_told(self):
        self.assertEqual(cosets(Code(2, 2, ((1, 1),))), (((0,), ((0, 0),)), ((1,), ((0, 1), (1, 0)))))
        self.assertEqual(cosets(Code(3, 2, ((0, 1),))), (((0,), ((0, 0),)), ((1,), ((1, 0),)), ((2,), ((2, 0),))))

    def test_known_codes(self):
        found = {}
        for p, n, rows in known_codes():
            code = Code(p, n, rows)
            if p ** (n - code.k) <= 4096:
                found[p, n] = (len(cosets(code)), covering_radius(code), count_decided(code))
        # A perfect code decides all words; the longer Golay code has the 440 cosets of the weight 3 undecided.
        self.assertEqual(found, {
            (2, 7): (8, 1, 2 ** 7),
            (3, 4): (9, 1, 3 ** 4),
            (3, 11): (243, 2, 3 ** 11),
            (3, 12): (729, 3, 3 ** 6 * 289),
            (5, 6): (625, 3, 25 * 265),
            (2, 12): (1, 0, 4096),
        })

    def test_the_length_zero_and_the_extreme_codes(self):
        for p in PRIMES:
            self.assertEqual(cosets(zero_code(p, 0)), (((), ((),)),))
            self.assertEqual((covering_radius(zero_code(p, 0)), count_decided(zero_code(p, 0))), (0, 1))
            self.assertEqual(cosets(whole_code(p, 3)), (((), ((0, 0, 0),)),))
            self.assertEqual((covering_radius(whole_code(p, 3)), count_decided(whole_code(p, 3))), (0, p ** 3))
            for n in range(1, LONGEST[p] + 1):
                code = zero_code(p, n)
                self.assertEqual(cosets(code), tuple((word, (word,)) for word in all_words(p, n)))
                self.assertEqual((covering_radius(code), count_decided(code)), (n, p ** n))

    def test_too_many_cosets(self):
        for p in PRIMES:
            refused = [zero_code(p, n) for n in range(LONGEST[p] + 1, 13)]
            if p > 2:
                refused += [repetition_code(p, LONGEST[p] + 2), Code(p, 12, ((0,) * 11 + (1,),))]
            for code in refused:
                for function in (cosets, covering_radius, count_decided):
                    with self.assertRaises(Refused) as caught:
                        function(code)
                    self.assertEqual(caught.exception.reason, "large")
            self.assertEqual(len(cosets(repetition_code(p, LONGEST[p]))), p ** (LONGEST[p] - 1))

    def test_many_cosets_with_many_leaders(self):
        for p, times in ((2, 6), (3, 6), (5, 5), (7, 4)):
            code = repetition_code(p, 2)
            for _ in range(times - 1):
                code = direct_sum(code, repetition_code(p, 2))
            found = cosets(code)
            self.assertEqual(len(found), p ** times)
            # Each pair that is not in its code has the leaders with the one item or the other.
            counts = [len(leaders) for _, leaders in found]
            weights = [weight_of(leaders[0]) for _, leaders in found]
            self.assertEqual(counts, [2 ** weight for weight in weights])
            self.assertEqual(sum(counts), (2 * p - 1) ** times)
            self.assertEqual((covering_radius(code), count_decided(code)), (times, p ** times))

    def test_near_words_are_decided(self):
        for p, n, rows, words in small_codes() + sample_codes():
            code = Code(p, n, rows)
            d = minimum_distance(code)
            if d is not None:
                near = [pair for pair in cosets(code) if weight_of(pair[1][0]) <= (d - 1) // 2]
                self.assertTrue(all(len(leaders) == 1 for _, leaders in near))
                balls = [word for word in all_words(p, n) if weight_of(word) <= (d - 1) // 2]
                self.assertEqual(len(near), len(balls))
                self.assertGreaterEqual(count_decided(code), len(balls) * code.size())


class Arguments(unittest.TestCase):
    def test_codes_stay_as_they_were(self):
        code = Code(3, 3, ((1, 0, 2), (0, 1, 1)))
        for function in (cosets, covering_radius, count_decided):
            self.assertEqual(function(code), function(Code(3, 3, code.rows)))
        for function, word in product((coset_leaders, nearest_words, distance_to), all_words(3, 3)):
            self.assertEqual(function(code, word), function(Code(3, 3, code.rows), word))
        self.assertEqual((str(code), code.k, len(code.checks())), ("3 3: 102 011", 2, 1))


if __name__ == "__main__":
    unittest.main()
