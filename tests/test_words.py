import unittest
from itertools import product

from brute import ODD_VALUES, PRIMES, all_words, distance_of, is_plain_word, total, weight_of
from weightkeepers.code import Code
from weightkeepers.errors import NoText
from weightkeepers.words import distance, read_word, weight, written


class Weights(unittest.TestCase):
    def test_ordinary(self):
        self.assertEqual(weight((0, 2, 0, 1, 6)), 3)
        self.assertEqual(weight((0,) * 12), 0)
        self.assertEqual(weight((4,) * 12), 12)
        self.assertEqual(distance((0, 2, 0, 1), (0, 1, 0, 1)), 1)
        self.assertEqual(distance((1, 2, 3), (3, 1, 2)), 3)

    def test_the_length_zero(self):
        self.assertEqual(weight(()), 0)
        self.assertEqual(distance((), ()), 0)

    def test_against_counting(self):
        for p in PRIMES:
            for v, w in product(all_words(p, 2), repeat=2):
                self.assertEqual(weight(v), weight_of(v))
                self.assertEqual(distance(v, w), weight_of(total((v, w), (1, -1), 2, p)))
                self.assertEqual(distance(v, w), distance_of(w, v))

    def test_results_are_integers(self):
        for found in (weight(()), weight((1, 1)), distance((1, 2), (1, 0))):
            self.assertIs(type(found), int)


class Written(unittest.TestCase):
    def test_ordinary(self):
        self.assertEqual(written((1, 0, 1)), "101")
        self.assertEqual(written((0, 6, 5, 4, 3, 2, 1)), "0654321")
        self.assertEqual(written((0,)), "0")

    def test_the_empty_word(self):
        self.assertEqual(written(()), "-")
        for p in PRIMES:
            self.assertEqual(read_word("-", p), ())

    def test_each_word_is_read_back(self):
        for p in PRIMES:
            for n in range(4):
                for word in all_words(p, n):
                    found = read_word(written(word), p)
                    self.assertTrue(is_plain_word(found, p, n))
                    self.assertEqual(found, word)
            self.assertEqual(read_word("0" * 40 + "1", p), (0,) * 40 + (1,))

    def test_written_forms_are_unlike(self):
        words = [word for n in range(4) for word in all_words(3, n)]
        self.assertEqual(len({written(word) for word in words}), len(words))


class ReadWord(unittest.TestCase):
    def assert_no_text(self, text, p):
        with self.assertRaises(NoText) as caught:
            read_word(text, p)
        self.assertEqual(caught.exception.at, 0)

    def test_digits_from_the_prime_on(self):
        for p in PRIMES:
            self.assertEqual(read_word(str(p - 1), p), (p - 1,))
            for digit in range(p, 10):
                for text in (str(digit), f"0{digit}", f"{digit}0", f"0{digit}1"):
                    self.assert_no_text(text, p)

    def test_other_strings(self):
        strings = ["", " ", "1 ", " 1", "1 0", "+1", "-1", "1-", "--", "- ", " -", "-0", "0-", "1\n", "\n", "1_0",
                   "0x1", "a", "0a", "1.0", "(1, 0)", "1,0", "\u0661", "\uff11", "\u00b9", "1\u0660", "\u2212",
                   "\u2013", "\x00", "None", "True"]
        for p in PRIMES:
            for text in strings:
                self.assert_no_text(text, p)

    def test_other_values(self):
        values = [value for value in ODD_VALUES if not isinstance(value, str)]
        values += [0, 1, -1, 101, (1, 0), ("1", "0"), ["-"], ("-",), b"1", b"-", Code(2, 1, ()), NoText(0)]
        for p in PRIMES:
            for value in values:
                self.assert_no_text(value, p)


if __name__ == "__main__":
    unittest.main()
