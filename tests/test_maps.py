import unittest
from itertools import product
from math import factorial
from random import Random

from brute import (ODD_VALUES, PRIMES, all_words, known_codes, monomials, moved, sample_codes, small_codes, sum_words,
                   total, weight_of)
from weightkeepers.build import repetition_code, whole_code, zero_code, zero_sum_code
from weightkeepers.code import Code, read_code
from weightkeepers.errors import Malformed, NoText, Refused
from weightkeepers.forms import form
from weightkeepers.maps import (all_maps, alike, automorphisms, changed_weight, extension, find_map, group_order,
                                image)
from weightkeepers.monomial import Monomial, identity
from weightkeepers.weights import weight_distribution

# Codes of one shape: the levels of the first one have few tuples, those of the second one too many.
FEW = "5 5: 10004 01004 00104 00014"
MANY = "5 5: 01000 00100 00010 00001"


def fields(told):
    """The fields of a monomial map."""
    return told.p, told.places, told.multiples


def carried_codes(p, n, words):
    """A dict from the codes that all monomial maps carry a code to, to the ascending lists of these maps."""
    found = {}
    for places, multiples in monomials(p, n):
        found.setdefault(frozenset(moved(places, multiples, word, p) for word in words), []).append((places, multiples))
    return found


def shapes():
    """For each prime and length the list of the pairs (rows, words) of all codes."""
    found = {}
    for p, n, rows, words in small_codes():
        found.setdefault((p, n), []).append((rows, words))
    return found.items()


class AllPairs(unittest.TestCase):
    """All pairs of small codes, against all monomial maps."""

    def test_maps_of_all_pairs(self):
        for (p, n), codes in shapes():
            for rows, words in codes:
                a = Code(p, n, rows)
                carried = carried_codes(p, n, words)
                for other_rows, other_words in codes:
                    self.assert_pair(a, Code(p, n, other_rows), carried.get(other_words, []))

    def assert_pair(self, a, b, expected):
        """The maps that carry `a` onto `b` are these."""
        found = all_maps(a, b)
        self.assertIs(type(found), tuple)
        self.assertEqual([fields(told) for told in found], [(a.p, *pair) for pair in expected])
        self.assertTrue(all(type(told) is Monomial for told in found))
        self.assertIs(alike(a, b), len(expected) > 0)
        one = find_map(a, b)
        if expected:
            self.assertIs(type(one), Monomial)
            self.assertIn(one, found)
            self.assertEqual(one.code(a), b)
        else:
            self.assertIsNone(one)

    def test_maps_onto_itself(self):
        for p, n, rows, words in small_codes() + [told for told in sample_codes() if told[1] < 6]:
            code = Code(p, n, rows)
            expected = carried_codes(p, n, words)[words]
            self.assertEqual(group_order(code), len(expected))
            if len(expected) > 2000:
                with self.assertRaises(Refused):
                    automorphisms(code)
                continue
            found = automorphisms(code)
            self.assertIs(type(found), tuple)
            self.assertEqual([fields(told) for told in found], [(p, *pair) for pair in expected])
            self.assertEqual(all_maps(code, code), found)

    def test_larger_codes_against_all_maps(self):
        chance = Random(7)
        for p, n, rows, words in sample_codes():
            if (p, n) not in ((2, 5), (2, 6), (3, 4), (5, 3), (7, 3)):
                continue
            a = Code(p, n, rows)
            carried = carried_codes(p, n, words)
            places, multiples = chance.choice(monomials(p, n))
            b = Monomial(p, places, multiples).code(a)
            expected = carried[frozenset(b.words())]
            self.assertLessEqual(len(expected), 2000)
            self.assert_pair(a, b, expected)


class Maps(unittest.TestCase):
    def assert_refused(self, reason, function, *arguments):
        with self.assertRaises(Refused) as caught:
            function(*arguments)
        self.assertEqual(caught.exception.reason, reason)

    def test_told(self):
        a, b = read_code("3 3: 102"), read_code("3 3: 011")
        found = [(told.places, told.multiples) for told in all_maps(a, b)]
        self.assertEqual(len(found), 8)
        self.assertEqual(found[:3], [((1, 0, 2), (1, 1, 2)), ((1, 0, 2), (1, 2, 2)), ((1, 0, 2), (2, 1, 1))])
        self.assertEqual(found[-1], ((2, 0, 1), (2, 2, 1)))
        self.assertEqual(find_map(a, b).code(a), b)

    def test_larger_codes_that_are_alike(self):
        chance = Random(11)
        for p, n, rows in known_codes():
            code = Code(p, n, rows)
            places = tuple(chance.sample(range(n), n))
            told = Monomial(p, places, tuple(chance.randrange(1, p) for _ in range(n)))
            if n > 8:
                for function in (alike, find_map, all_maps):
                    self.assert_refused("large", function, code, told.code(code))
                continue
            other = told.code(code)
            self.assertIs(alike(code, other), True)
            self.assertEqual(find_map(code, other).code(code), other)
            self.assertEqual(find_map(other, code).code(other), code)
            self.assertEqual(group_order(code), group_order(other))

    def test_alike_exactly_for_equal_forms(self):
        codes = [Code(2, 5, rows) for rows in product(all_words(2, 5)[1::2], repeat=2)]
        for a, b in product(codes[::7], repeat=2):
            self.assertEqual(alike(a, b), form(a) == form(b))
            self.assertEqual(find_map(a, b) is not None, form(a) == form(b))

    def test_equal_weights_of_all_words_but_not_alike(self):
        a, b = read_code("2 6: 110000 001100 000011"), read_code("2 6: 111001 000101 000011")
        self.assertEqual(weight_distribution(a), weight_distribution(b))
        self.assertIs(alike(a, b), False)
        self.assertIsNone(find_map(a, b))
        self.assertEqual(all_maps(a, b), ())
        self.assertEqual((group_order(a), group_order(b)), (48, 36))

    def test_unlike_codes(self):
        # Some of these have too many tuples in a level, but are not looked at.
        codes = [zero_code(p, n) for p in PRIMES for n in (0, 1, 3, 12)]
        codes += [repetition_code(p, n) for p in PRIMES for n in (1, 3, 8)]
        codes += [whole_code(2, 12), zero_sum_code(2, 12), whole_code(3, 5), whole_code(2, 3)]
        codes += [whole_code(2, 7), zero_sum_code(2, 8), whole_code(5, 4), read_code(MANY)]
        for a, b in product(codes, repeat=2):
            if (a.p, a.n, a.k) != (b.p, b.n, b.k):
                self.assertIs(alike(a, b), False)
                self.assertIsNone(find_map(a, b))
                self.assertEqual(all_maps(a, b), ())

    def test_errors_of_the_levels(self):
        few, many = read_code(FEW), read_code(MANY)
        self.assertIs(alike(few, few), True)
        for a, b in ((few, many), (many, few), (many, many), (whole_code(2, 7), whole_code(2, 7))):
            for function in (alike, find_map, all_maps):
                self.assert_refused("large", function, a, b)
        for code in (many, whole_code(2, 7), whole_code(2, 12)):
            self.assert_refused("large", automorphisms, code)
            self.assert_refused("large", group_order, code)

    def test_the_most_maps(self):
        # 1920 and 2016 maps are as near to 2000 as codes of small lengths have them.
        code = read_code("3 7: 1000000 0100000 0011111")
        self.assertEqual(len(automorphisms(code)), 1920)
        self.assertEqual(group_order(code), 1920)
        self.assertEqual(len(automorphisms(read_code("7 5: 10000 01010 00101"))), 1728)
        many = read_code("7 8: 10014554 01036563 00145541")
        self.assertEqual(group_order(many), 2016)
        self.assert_refused("many", automorphisms, many)
        moved_code = Monomial(7, (1, 0, 2, 3, 4, 5, 7, 6), (1, 2, 3, 4, 5, 6, 1, 2)).code(many)
        self.assert_refused("many", all_maps, many, moved_code)
        self.assertIs(alike(many, moved_code), True)
        # Codes that are not alike have no maps, and so not too many.
        units = read_code("7 8: 10000000 01000000 00100000")
        self.assertEqual(all_maps(many, units), ())
        self.assertEqual(all_maps(units, many), ())
        # Neither the tuples nor the ways to carry one to another are too many, but both together.
        self.assertEqual(group_order(read_code("7 4: 1000 0100")), (2 * 36) * (2 * 36))
        self.assert_refused("many", automorphisms, read_code("7 4: 1000 0100"))
        self.assertEqual(len(automorphisms(read_code("5 4: 1000 0100"))), (2 * 16) * (2 * 16))

    def test_many_maps_are_counted_without_making_them(self):
        for p in PRIMES:
            for n in range(13):
                self.assertEqual(group_order(zero_code(p, n)), factorial(n) * (p - 1) ** n)
                if n > 0:
                    self.assertEqual(group_order(repetition_code(p, n)), factorial(n) * (p - 1))
        # The automorphisms of the Hamming codes, and of the simplex codes: all matrices that can be undone.
        self.assertEqual(group_order(read_code("2 7: 1000011 0100101 0010110 0001111")), 168)
        self.assertEqual(group_order(read_code("3 4: 1011 0112")), 48)
        self.assertEqual(group_order(Code(5, 6, ((1, 1, 1, 1, 1, 0), (0, 1, 2, 3, 4, 1)))), 480)
        for p, n in ((2, 7), (2, 12), (3, 5), (5, 4), (7, 4)):
            self.assert_refused("many", automorphisms, zero_code(p, n))
        self.assert_refused("many", all_maps, zero_code(5, 4), zero_code(5, 4))

    def test_places_that_are_zero_or_have_one_line(self):
        # Two places are 0 in all words, three others have one line.
        code = read_code("3 6: 100000 011200")
        found = automorphisms(code)
        self.assertEqual(len(found), group_order(code))
        self.assertEqual(len(found), 2 * (6 * 2) * (2 * 4))
        self.assertEqual(len({(told.places, told.multiples) for told in found}), len(found))
        self.assertTrue(all(told.code(code) == code for told in found))
        same = [told for told in found if [told.carried(row) for row in code.rows] == list(code.rows)]
        self.assertEqual(len(same), 6 * (2 * 4))

    def test_the_length_zero(self):
        for p in PRIMES:
            code = zero_code(p, 0)
            self.assertIs(alike(code, code), True)
            self.assertEqual(find_map(code, code), identity(p, 0))
            self.assertEqual(all_maps(code, code), (identity(p, 0),))
            self.assertEqual(automorphisms(code), (identity(p, 0),))
            self.assertEqual(group_order(code), 1)

    def test_the_zero_word_and_all_words(self):
        for p, n in ((2, 4), (2, 5), (3, 3), (5, 2), (7, 2)):
            maps = [Monomial(p, places, multiples) for places, multiples in monomials(p, n)]
            for code in (zero_code(p, n), whole_code(p, n)):
                self.assertIs(alike(code, code), True)
                self.assertEqual(find_map(code, code).code(code), code)
                self.assertEqual(list(automorphisms(code)), maps)
                self.assertEqual(group_order(code), len(maps))

    def test_arguments_stay_as_they_were(self):
        a, b = read_code("3 3: 102"), read_code("3 3: 011")
        told = alike(a, b), find_map(a, b), all_maps(a, b), group_order(a)
        self.assertEqual((str(a), str(b)), ("3 3: 102", "3 3: 011"))
        self.assertEqual((alike(a, b), find_map(a, b), all_maps(a, b), group_order(a)), told)


def mapped(p, n, width, rows, images):
    """A dict from all words of a code to their images, which are words of the width."""
    return {
        total(rows, factors, n, p): total(images, factors, width, p)
        for factors in product(range(p), repeat=len(rows))
    }


def some_images():
    """Tuples (code, images) of small codes with all images of the length of the code."""
    for p, n, rows, words in small_codes():
        code = Code(p, n, rows)
        if p ** (n * code.k) <= 800:
            for images in product(all_words(p, n), repeat=code.k):
                yield code, images


def wrong_images(p, width, count):
    """Values that are no tuple of `count` words of one length over `p`, for a width from 2 and a count from 2 on."""
    word = (1,) * width
    rest = (word,) * (count - 1)
    found = [*ODD_VALUES, 0, word, [word] * count, rest, rest + (word, word), (word, rest), str(rest)]
    odd = [word[:-1], word + (0,), list(word), (True,) + word[1:], (False,) + word[1:], (p,) + word[1:], (), None, "11",
           (-1,) + word[1:], word[:-1] + (None,), word[:-1] + ("1",), word[:-1] + ((),), (word,), 0, zero_code(p, 2)]
    for wrong in odd:
        found += [rest + (wrong,), (wrong,) + rest]
    return found


class Images(unittest.TestCase):
    def test_told(self):
        code = read_code("3 3: 102 012")
        self.assertEqual(image(code, ((1, 0), (2, 2)), (1, 1, 1)), (0, 2))
        self.assertEqual(image(code, ((1, 0), (2, 2)), (2, 1, 0)), (1, 2))
        self.assertEqual(image(code, ((), ()), (2, 1, 0)), ())
        self.assertEqual(image(code, ((1,) * 20, (2,) * 20), (1, 0, 2)), (1,) * 20)

    def test_sums_of_multiples(self):
        chance = Random(3)
        for p, n, rows, words in small_codes() + sample_codes():
            code = Code(p, n, rows)
            for width in (0, 1, n, 13):
                images = tuple(tuple(chance.randrange(p) for _ in range(width)) for _ in range(code.k))
                expected = mapped(p, n, width, code.rows, images)
                self.assertEqual(set(expected), set(words))
                for word in sorted(words)[:50]:
                    found = image(code, images, word)
                    self.assertIs(type(found), tuple)
                    self.assertEqual(found, expected[word] if code.k else ())

    def test_the_dimension_zero(self):
        for p in PRIMES:
            for n in (0, 1, 12):
                code = zero_code(p, n)
                self.assertEqual(image(code, (), (0,) * n), ())
                self.assertIsNone(changed_weight(code, ()))
                told = extension(code, ())
                self.assertEqual((type(told), told.p, len(told.places)), (Monomial, p, n))
                for images in [value for value in ODD_VALUES if value != ()] + [((0,) * n,), [], None]:
                    for function, *arguments in ((image, code, images, (0,) * n), (changed_weight, code, images),
                                                 (extension, code, images)):
                        with self.assertRaises(Malformed):
                            function(*arguments)

    def test_no_words_of_the_code(self):
        code = read_code("3 3: 102 012")
        words = set(code.words())
        odd = [*ODD_VALUES, 0, [0, 0, 0], "000", (0, 0), (0, 0, 0, 0), (True, 0, 2), (1, 0, 5), (-2, 0, 2),
               (1, False, 2), ((0, 0, 0),), code, identity(3, 3), NoText(0)]
        for value in odd + [word for word in all_words(3, 3) if word not in words]:
            with self.assertRaises(Malformed):
                image(code, ((1, 0), (2, 2)), value)

    def test_wrong_images(self):
        code = read_code("3 3: 102 012")
        for images in wrong_images(3, 2, 2):
            with self.assertRaises(Malformed):
                image(code, images, (1, 0, 2))
        for images in wrong_images(3, 3, 2) + [((1, 0), (0, 1)), ((), ()), ((1,) * 4, (0,) * 4)]:
            for function in (changed_weight, extension):
                with self.assertRaises(Malformed):
                    function(code, images)


class Extensions(unittest.TestCase):
    def test_all_images_of_small_codes(self):
        for code, images in some_images():
            expected = mapped(code.p, code.n, code.n, code.rows, images)
            changed = [word for word in sorted(expected) if weight_of(word) != weight_of(expected[word])]
            self.assertEqual(changed_weight(code, images), changed[0] if changed else None)
            told = extension(code, images)
            if changed:
                self.assertIsNone(told)
            else:
                self.assertIs(type(told), Monomial)
                self.assertEqual({word: told.carried(word) for word in expected}, expected)

    def test_images_that_a_monomial_map_gives(self):
        chance = Random(9)
        for p, n, rows in known_codes() + [told[:3] for told in sample_codes()]:
            code = Code(p, n, rows)
            given = Monomial(p, tuple(chance.sample(range(n), n)), tuple(chance.randrange(1, p) for _ in range(n)))
            images = tuple(given.carried(row) for row in code.rows)
            self.assertIsNone(changed_weight(code, images))
            told = extension(code, images)
            self.assertEqual([told.carried(row) for row in code.rows], list(images))
            if code.k > 0:
                self.assert_changed_item(code, images, chance)

    def assert_changed_item(self, code, images, chance):
        """With one item of the images changed, the functions still agree with one another."""
        at, place = chance.randrange(code.k), chance.randrange(code.n)
        other = images[at][:place] + ((images[at][place] + 1) % code.p,) + images[at][place + 1:]
        images = images[:at] + (other,) + images[at + 1:]
        changed, told = changed_weight(code, images), extension(code, images)
        self.assertEqual(changed is None, told is not None)
        if told is None:
            self.assertNotEqual(weight_of(changed), weight_of(image(code, images, changed)))
            for word in code.words():
                if word < changed:
                    self.assertEqual(weight_of(word), weight_of(image(code, images, word)))
        else:
            self.assertEqual([told.carried(row) for row in code.rows], list(images))

    def test_weights_of_the_rows_are_not_enough(self):
        code = read_code("2 4: 1010 0110")
        images = ((1, 1, 0, 0), (0, 0, 1, 1))
        self.assertEqual(changed_weight(code, images), (1, 1, 0, 0))
        self.assertIsNone(extension(code, images))

    def test_places_that_are_zero(self):
        code = read_code("5 4: 1020")
        told = extension(code, ((0, 3, 0, 4),))
        self.assertEqual(told.carried((1, 0, 2, 0)), (0, 3, 0, 4))
        self.assertIsNone(extension(code, ((1, 1, 1, 0),)))
        self.assertEqual(changed_weight(code, ((0, 0, 0, 0),)), (1, 0, 2, 0))

    def test_codes_with_too_many_tuples(self):
        # No levels are made here.
        code = whole_code(2, 12)
        images = tuple(row[::-1] for row in code.rows)
        self.assertEqual(extension(code, images).places, tuple(range(11, -1, -1)))
        self.assertIsNone(changed_weight(code, images))
        code = whole_code(7, 4)
        images = tuple(tuple(3 * item % 7 for item in row) for row in code.rows)
        self.assertEqual(extension(code, images).multiples, (3, 3, 3, 3))

    def test_sums_are_carried_to_sums(self):
        code = read_code("7 3: 102 015")
        images = ((1, 2, 3), (4, 5, 6))
        for v, w in product(list(code.words()), repeat=2):
            both = image(code, images, sum_words(v, w, 7))
            self.assertEqual(both, sum_words(image(code, images, v), image(code, images, w), 7))


if __name__ == "__main__":
    unittest.main()
