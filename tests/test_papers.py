import unittest
from itertools import product

from brute import (ODD_VALUES, PRIMES, all_words, distance_of, known_codes, monomials, moved, plain_levels,
                   sample_codes, small_codes, total, weight_of)
from weightkeepers.build import repetition_code, whole_code, zero_code, zero_sum_code
from weightkeepers.checker import takes_distance, takes_map, takes_nearest, takes_pair
from weightkeepers.code import Code, read_code
from weightkeepers.errors import Malformed, NoText, Refused
from weightkeepers.forms import levels
from weightkeepers.monomial import identity
from weightkeepers.papers import distance_paper, map_paper, nearest_paper, pair_paper


class Distances(unittest.TestCase):
    def test_told(self):
        self.assertEqual(distance_paper(read_code("2 4: 1100 0011")), ("distance", 2, (0, 0, 1, 1)))
        self.assertEqual(distance_paper(read_code("7 2: 13")), ("distance", 2, (1, 3)))
        self.assertEqual(distance_paper(whole_code(7, 1)), ("distance", 1, (1,)))

    def test_the_least_word_of_the_least_weight(self):
        for p, n, rows, words in small_codes() + sample_codes():
            code = Code(p, n, rows)
            if len(words) > 1:
                least = min(weight_of(word) for word in words if any(word))
                word = min(word for word in words if weight_of(word) == least)
                self.assertEqual(distance_paper(code), ("distance", least, word))
                self.assertIs(takes_distance(code, distance_paper(code)), True)

    def test_larger_codes(self):
        for p, n, rows in known_codes():
            code = Code(p, n, rows)
            self.assertIs(takes_distance(code, distance_paper(code)), True)

    def test_the_zero_word_alone(self):
        for p in PRIMES:
            for n in (0, 1, 12):
                with self.assertRaises(Refused) as caught:
                    distance_paper(zero_code(p, n))
                self.assertEqual(caught.exception.reason, "zero")


class Pairs(unittest.TestCase):
    def test_all_pairs_of_small_codes(self):
        shapes = {}
        for p, n, rows, words in small_codes():
            shapes.setdefault((p, n), []).append((rows, words))
        for (p, n), codes in shapes.items():
            maps = monomials(p, n)
            for rows, words in codes:
                a = Code(p, n, rows)
                carried = {frozenset(moved(*pair, word, p) for word in words) for pair in maps}
                for other_rows, other_words in codes:
                    self.assert_pair(a, Code(p, n, other_rows), other_words in carried)

    def assert_pair(self, a, b, are_alike):
        """The paper shows this, and the checker accepts it."""
        paper = pair_paper(a, b)
        self.assertIs(takes_pair(a, b, paper), True)
        self.assertEqual((type(paper), len(paper)), (tuple, 3))
        if are_alike:
            self.assertEqual(paper[0], "alike")
            self.assertEqual({moved(paper[1], paper[2], word, a.p) for word in a.words()}, set(b.words()))
        elif (a.p, a.n, a.k) == (b.p, b.n, b.k):
            self.assertEqual(paper, ("unlike", levels(a), levels(b)))
        else:
            self.assertEqual(paper, ("unlike", (), ()))

    def test_unlike_shapes(self):
        # Some of these have too many tuples in a level, but are not looked at.
        codes = [zero_code(p, n) for p in PRIMES for n in (0, 1, 12)] + [repetition_code(p, 3) for p in PRIMES]
        codes += [whole_code(2, 12), zero_sum_code(2, 12), whole_code(3, 5)]
        for a, b in product(codes, repeat=2):
            if (a.p, a.n, a.k) != (b.p, b.n, b.k):
                self.assert_pair(a, b, False)

    def test_levels_by_the_plain_way(self):
        a, b = read_code("2 6: 110000 001100 000011"), read_code("2 6: 111001 000101 000011")
        expected = [plain_levels(set(code.words()), 2, 6, 3) for code in (a, b)]
        self.assertEqual(pair_paper(a, b), ("unlike", *expected))
        self.assert_pair(a, b, False)

    def test_the_dimension_zero(self):
        for p in PRIMES:
            for n in (0, 1, 12):
                self.assertEqual(pair_paper(zero_code(p, n), zero_code(p, n))[0], "alike")
                self.assert_pair(zero_code(p, n), zero_code(p, n), True)

    def test_too_many_tuples(self):
        few, many = read_code("5 5: 10004 01004 00104 00014"), read_code("5 5: 01000 00100 00010 00001")
        for a, b in ((few, many), (many, few), (many, many), (whole_code(2, 12), whole_code(2, 12))):
            with self.assertRaises(Refused) as caught:
                pair_paper(a, b)
            self.assertEqual(caught.exception.reason, "large")


class Maps(unittest.TestCase):
    def test_all_images_of_small_codes(self):
        for p, n, rows, words in small_codes():
            code = Code(p, n, rows)
            if p ** (n * code.k) <= 300:
                for images in product(all_words(p, n), repeat=code.k):
                    self.assert_map(code, images)

    def assert_map(self, code, images):
        """The paper shows that all weights are kept, or the least word with another weight."""
        p, n = code.p, code.n
        paper = map_paper(code, images)
        self.assertIs(takes_map(code, images, paper), True)
        pairs = sorted((total(code.rows, factors, n, p), total(images, factors, n, p))
                       for factors in product(range(p), repeat=code.k))
        changed = [word for word, found in pairs if weight_of(word) != weight_of(found)]
        if changed:
            self.assertEqual(paper, ("changes", changed[0]))
        else:
            self.assertEqual((paper[0], len(paper)), ("keeps", 3))
            for word, found in pairs:
                self.assertEqual(moved(paper[1], paper[2], word, p), found)

    def test_told(self):
        code = read_code("2 4: 1010 0110")
        self.assertEqual(map_paper(code, ((1, 1, 0, 0), (0, 0, 1, 1))), ("changes", (1, 1, 0, 0)))
        self.assertEqual(map_paper(whole_code(7, 2), ((0, 3), (5, 0))), ("keeps", (1, 0), (3, 5)))

    def test_wrong_images(self):
        code = read_code("3 3: 102 012")
        values = [*ODD_VALUES, 0, ((1, 0, 2),), ((1, 0, 2),) * 3, [(1, 0, 2), (1, 0, 2)], ((1, 0), (0, 1)), ((), ()),
                  ((1, 0, 2), [1, 0, 2]), ((1, 0, 2), (1, 0, 3)), ((True, 0, 2), (1, 0, 2)), ((1, 0, 2), None),
                  ((1, 0, 2, 0), (1, 0, 2, 0)), code, identity(3, 3), NoText(0)]
        for images in values:
            with self.assertRaises(Malformed):
                map_paper(code, images)
        for images in ((0,), ((),), [], None, ((0, 0, 0),)):
            with self.assertRaises(Malformed):
                map_paper(zero_code(3, 3), images)


class Nearest(unittest.TestCase):
    def test_told(self):
        self.assertEqual(nearest_paper(read_code("2 2: 11"), (0, 1)), ("nearest", 1, ((0, 0), (1, 1))))
        self.assertEqual(nearest_paper(zero_code(3, 0), ()), ("nearest", 0, ((),)))

    def test_all_words(self):
        for p, n, rows, words in small_codes():
            code = Code(p, n, rows)
            for word in all_words(p, n):
                least = min(distance_of(word, other) for other in words)
                expected = tuple(sorted(other for other in words if distance_of(word, other) == least))
                self.assertEqual(nearest_paper(code, word), ("nearest", least, expected))
                self.assertIs(takes_nearest(code, word, nearest_paper(code, word)), True)

    def test_no_words(self):
        code = read_code("3 3: 102")
        for value in (*ODD_VALUES, 0, [0, 0, 0], "000", (0, 0), (0, 0, 0, 0), (0, 0, 3), (-1, 0, 0), (True, 0, 0),
                      (0, 0, None), ((0, 0, 0),), code, identity(3, 3), NoText(0)):
            with self.assertRaises(Malformed):
                nearest_paper(code, value)

    def test_arguments_stay_as_they_were(self):
        code, other = read_code("3 3: 102"), read_code("3 3: 110")
        told = [distance_paper(code), pair_paper(code, other), nearest_paper(code, (1, 1, 1)),
                map_paper(code, ((1, 1, 0),))]
        again = [distance_paper(code), pair_paper(code, other), nearest_paper(code, (1, 1, 1)),
                 map_paper(code, ((1, 1, 0),))]
        self.assertEqual(told, again)
        self.assertEqual((str(code), str(other)), ("3 3: 102", "3 3: 110"))


if __name__ == "__main__":
    unittest.main()
