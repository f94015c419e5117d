import unittest
from itertools import product

from brute import (PRIMES, all_words, is_plain_word, known_codes, monomials, moved, plain_levels, plain_line,
                   plain_mark, sample_codes, small_codes, span)
from weightkeepers.build import direct_sum, repetition_code, whole_code, zero_code, zero_sum_code
from weightkeepers.code import Code, read_code
from weightkeepers.errors import Refused
from weightkeepers.forms import form, least_table, levels, line, mark
from weightkeepers.monomial import Monomial


def some_map(p, n, shift):
    """A monomial map that is not told by any rule of the code."""
    places = tuple(sorted(range(n), key=lambda at: (at * at + 3 * at * shift + shift) % 13 * 12 + at))
    return Monomial(p, places, tuple((at * shift + at // 2) % (p - 1) + 1 for at in range(n)))


def few_tuples():
    """Tuples (p, n, rows, words) of codes whose levels can be found by going over all tuples."""
    return small_codes() + [told for told in sample_codes() if len(told[3]) <= 32]


class Lines(unittest.TestCase):
    def test_told(self):
        self.assertEqual(line((0, 3, 1, 0), 5), (0, 1, 2, 0))
        self.assertEqual(line((6, 1), 7), (1, 6))
        self.assertEqual(line((0, 0), 3), (0, 0))
        self.assertEqual(line((), 2), ())

    def test_against_all_multiples(self):
        for p in PRIMES:
            for n in range(4):
                for column in all_words(p, n):
                    found = line(column, p)
                    self.assertTrue(is_plain_word(found, p, n))
                    self.assertEqual(found, plain_line(column, p))

    def test_one_line_exactly_for_multiples(self):
        for p in PRIMES:
            for v, w in product(all_words(p, 2), repeat=2):
                multiples = [tuple(a * item % p for item in v) for a in range(1, p)]
                self.assertEqual(line(v, p) == line(w, p), w in multiples)


class Marks(unittest.TestCase):
    def test_told(self):
        self.assertEqual(mark(((1, 2, 0, 0), (2, 1, 2, 0)), 4, 3), ((0, 0), (0, 1), (1, 2), (1, 2)))
        self.assertEqual(mark(((0, 4, 1),), 3, 5), ((0,), (1,), (1,)))
        self.assertEqual(mark(((), ()), 0, 2), ())

    def test_no_words(self):
        for p in PRIMES:
            for n in (0, 1, 12):
                self.assertEqual(mark((), n, p), ((),) * n)

    def test_against_plain_marks(self):
        for p, n, count in ((2, 3, 2), (2, 2, 3), (3, 2, 2), (5, 2, 2), (7, 2, 1), (3, 1, 3)):
            for words in product(all_words(p, n), repeat=count):
                self.assertEqual(mark(words, n, p), plain_mark(words, n, p))

    def test_monomial_maps_keep_marks(self):
        for p, n, count in ((2, 3, 2), (3, 2, 2), (5, 2, 1), (7, 1, 2)):
            for words in product(all_words(p, n), repeat=count):
                for places, multiples in monomials(p, n):
                    carried = tuple(moved(places, multiples, word, p) for word in words)
                    self.assertEqual(mark(carried, n, p), mark(words, n, p))


class Levels(unittest.TestCase):
    def assert_form(self, code, found):
        """The levels are tuples of marks and of ascending tuples of independent words."""
        self.assertIs(type(found), tuple)
        self.assertEqual(len(found), code.k)
        for count, (told, tuples) in enumerate(found, 1):
            self.assertIs(type(tuples), tuple)
            self.assertEqual(list(tuples), sorted(set(tuples)))
            for words in (tuples[0], tuples[-1]):
                self.assertEqual((len(words), mark(words, code.n, code.p)), (count, told))
                self.assertEqual(Code(code.p, code.n, words).k, count)

    def test_told(self):
        self.assertEqual(levels(Code(2, 3, ((1, 1, 0), (0, 0, 1)))), (
            (((0,), (0,), (1,)), (((0, 0, 1),),)),
            (((0, 1), (0, 1), (1, 0)), (((0, 0, 1), (1, 1, 0)),)),
        ))
        self.assertEqual(levels(Code(3, 2, ((1, 2),))), ((((1,), (1,)), (((1, 2),), ((2, 1),))),))

    def test_against_all_tuples(self):
        for p, n, rows, words in few_tuples():
            code = Code(p, n, rows)
            found = levels(code)
            self.assertEqual(found, plain_levels(words, p, n, code.k))
            self.assert_form(code, found)

    def test_codes_of_all_dimensions(self):
        for p, n, rows in ((2, 10, ("1100000000", "0011100000", "0000011110", "1010100001")),
                           (2, 8, ("11110000", "00111100", "01010101")),
                           (2, 9, ("111000000", "000111000", "000000111", "100100100")),
                           (3, 6, ("111000", "000111", "012012")),
                           (3, 7, ("1110000", "1200000", "0001111")),
                           (5, 6, ("111111", "012341")),
                           (7, 5, ("11111", "01234"))):
            rows = tuple(tuple(map(int, row)) for row in rows)
            code = Code(p, n, rows)
            self.assertEqual(levels(code), plain_levels(span(rows, n, p), p, n, code.k))

    def test_monomial_maps_carry_levels(self):
        for p, n, rows, words in sample_codes():
            code, told = Code(p, n, rows), some_map(p, n, 2)
            expected = []
            try:
                found = levels(code)
            except Refused:
                with self.assertRaises(Refused):
                    levels(told.code(code))
                continue
            self.assert_form(code, found)
            for told_mark, tuples in found:
                carried = [tuple(told.carried(word) for word in held) for held in tuples]
                expected.append((told_mark, tuple(sorted(carried))))
            self.assertEqual(levels(told.code(code)), tuple(expected))

    def test_no_words(self):
        for p in PRIMES:
            for n in (0, 1, 12):
                self.assertEqual(levels(zero_code(p, n)), ())

    def test_numbers_of_tuples(self):
        # All words: unit words in any order, each with any multiple.
        self.assertEqual([len(tuples) for _, tuples in levels(whole_code(2, 6))], [6, 30, 120, 360, 720, 720])
        self.assertEqual([len(tuples) for _, tuples in levels(whole_code(5, 3))], [12, 96, 384])
        # The simplex code: any two independent words are as good as any others.
        simplex = Code(7, 8, ((1,) * 7 + (0,), tuple(range(7)) + (1,)))
        self.assertEqual([len(tuples) for _, tuples in levels(simplex)], [48, 48 * 42])

    def test_too_many_tuples(self):
        self.assertEqual(len(levels(whole_code(3, 4))[-1][1]), 384)
        # At the level 5 of the first one 7 * 6 * 5 * 4 * 3 = 2520 tuples, at the level 6 5040.
        refused = [whole_code(2, 7), whole_code(2, 12), whole_code(3, 5), whole_code(5, 4), whole_code(7, 4)]
        refused += [Code(p, n, rows) for p, n, rows in known_codes() if (p, n) in ((3, 11), (3, 12))]
        refused += [zero_sum_code(2, 12)]
        for code in refused:
            for function in (levels, least_table, form):
                with self.assertRaises(Refused) as caught:
                    function(code)
                self.assertEqual(caught.exception.reason, "large")

    def test_the_most_tuples(self):
        # These greatest numbers of tuples, 2880 and 3072, are as near to 3000 as simple codes have them.
        self.assertEqual([len(tuples) for _, tuples in levels(zero_sum_code(5, 6))], [60, 480, 1440, 2880, 2880])
        with self.assertRaises(Refused) as caught:
            levels(read_code("5 6: 100000 010004 001001 000101 000010"))
        self.assertEqual(caught.exception.reason, "large")


class Forms(unittest.TestCase):
    def test_the_least_table(self):
        for p, n, rows, words in few_tuples():
            code = Code(p, n, rows)
            expected = ((),) * n if code.k == 0 else plain_levels(words, p, n, code.k)[-1][0]
            self.assertEqual(least_table(code), expected)

    def test_the_dimension_zero(self):
        for p in PRIMES:
            for n in (0, 1, 12):
                self.assertEqual(least_table(zero_code(p, n)), ((),) * n)
                self.assertEqual(form(zero_code(p, n)), zero_code(p, n))

    def test_the_form_has_the_least_table_in_its_columns(self):
        for p, n, rows, words in few_tuples():
            code = Code(p, n, rows)
            found, table = form(code), least_table(code)
            told = [tuple(column[at] for column in table) for at in range(code.k)]
            self.assertEqual((found.p, found.n, found.k), (p, n, code.k))
            self.assertEqual(set(found.words()), span(told, n, p))
            self.assertEqual(least_table(found), table)
            self.assertEqual(form(found), found)

    def test_told(self):
        self.assertEqual(least_table(Code(2, 3, ((1, 1, 0), (0, 0, 1)))), ((0, 1), (0, 1), (1, 0)))
        self.assertEqual(str(form(Code(2, 3, ((1, 1, 0), (0, 0, 1))))), "2 3: 110 001")
        self.assertEqual(str(form(Code(3, 3, ((2, 0, 1),)))), "3 3: 011")
        self.assertEqual(str(form(Code(7, 4, ((3, 0, 5, 0), (0, 2, 0, 0))))), "7 4: 0110 0001")

    def test_forms_are_equal_exactly_for_alike_codes(self):
        for p, n in ((2, 1), (2, 2), (2, 3), (2, 4), (3, 1), (3, 2), (3, 3), (5, 2), (7, 2)):
            spaces = [(rows, words) for q, m, rows, words in small_codes() if (q, m) == (p, n)]
            forms = {words: form(Code(p, n, rows)) for rows, words in spaces}
            tables = {words: least_table(Code(p, n, rows)) for rows, words in spaces}
            reached = {words: {frozenset(moved(places, multiples, word, p) for word in words)
                               for places, multiples in monomials(p, n)} for _, words in spaces}
            for a, b in product(reached, repeat=2):
                self.assertEqual(forms[a] == forms[b], b in reached[a])
                self.assertEqual(len(a) == len(b) and tables[a] == tables[b], b in reached[a])

    def test_larger_codes(self):
        codes = [Code(p, n, rows) for p, n, rows, words in sample_codes() if len(words) <= 64]
        codes += [Code(p, n, rows) for p, n, rows in known_codes() if (p, n) in ((2, 7), (3, 4), (5, 6))]
        codes += [direct_sum(repetition_code(3, 3), zero_sum_code(3, 4)), Code(2, 12, all_words(2, 12)[7::500])]
        for code in codes:
            found = form(code)
            for shift in (1, 4):
                self.assertEqual(form(some_map(code.p, code.n, shift).code(code)), found)


class Arguments(unittest.TestCase):
    def test_arguments_stay_as_they_were(self):
        code = Code(3, 4, ((1, 0, 1, 1), (0, 1, 1, 2)))
        for function in (levels, least_table, form):
            self.assertEqual(function(code), function(Code(3, 4, code.rows)))
        self.assertEqual((str(code), code.k, len(code.checks())), ("3 4: 1011 0112", 2, 2))


if __name__ == "__main__":
    unittest.main()
