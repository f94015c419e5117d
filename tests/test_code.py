import unittest
from itertools import combinations, product

from brute import (ODD_VALUES, PRIMES, all_words, is_plain_word, known_codes, product_of, sample_codes, small_codes,
                   small_tables, span, sum_words)
from weightkeepers.code import Code, common_part, read_code, sum_of
from weightkeepers.errors import Malformed, NoText, Refused
from weightkeepers.linear import kernel, reduced
from weightkeepers.words import read_word

# The unit words of the length 12, the first ones of which span codes of all dimensions.
UNITS = tuple(tuple(int(at == place) for at in range(12)) for place in range(12))
# The greatest dimension of a code of at most 4096 words.
DEEPEST = {2: 12, 3: 7, 5: 5, 7: 4}


def brute_codes():
    """Tuples (p, n, rows, words) of the codes of the tests."""
    return small_codes() + sample_codes()


class Errors(unittest.TestCase):
    def assert_malformed(self, *arguments):
        with self.assertRaises(Malformed):
            Code(*arguments)

    def assert_refused(self, reason, *arguments):
        with self.assertRaises(Refused) as caught:
            Code(*arguments)
        self.assertEqual(caught.exception.reason, reason)

    def test_no_prime(self):
        for p in (*ODD_VALUES, 0, 1, -2, 4, 6, 8, 9, 11, 13, 10 ** 30, (2,), [3], "2", 2.0, Malformed("p")):
            self.assert_malformed(p, 2, ((1, 0),))
            self.assert_malformed(p, 0, ())

    def test_no_length(self):
        for n in (*ODD_VALUES, -1, -12, -10 ** 30, (2,), [3], "2", 2.0, Malformed("n")):
            self.assert_malformed(2, n, ())
        self.assert_malformed(2, True, ((1,),))
        self.assert_malformed(2, False, ())

    def test_length_above_12(self):
        for p in PRIMES:
            Code(p, 12, ())
            for n in (13, 14, 100):
                self.assert_refused("length", p, n, ())
                self.assert_refused("length", p, n, ((0,) * n,))
            self.assert_refused("length", p, 10 ** 30, ())

    def test_rows_that_are_no_list_or_tuple(self):
        values = [value for value in ODD_VALUES if not isinstance(value, (list, tuple))]
        for rows in (*values, 0, 1, {(0, 0)}, {(0, 0): 1}, iter(((0, 1),)), range(0), Code(2, 2, ())):
            for n in (0, 2):
                self.assert_malformed(2, n, rows)

    def test_items_that_are_no_words(self):
        items = [value for value in ODD_VALUES if value != ()]
        items += [0, 1, (0,), (0, 0, 0), [0, 1], (0, 2), (2, 0), (-1, 0), (True, 0), (0, False), "01", ("0", "1"),
                  (0, 1.0), Code(2, 2, ())]
        for item in items:
            for rows in ((item,), [item], ((0, 1), item), [item, (1, 1)]):
                self.assert_malformed(2, 2, rows)
        self.assert_malformed(2, 2, ((),))
        self.assert_malformed(2, 0, ((0,),))

    def test_too_many_words(self):
        for p in PRIMES:
            most = DEEPEST[p]
            self.assertEqual(Code(p, 12, UNITS[:most]).size(), p ** most)
            self.assertEqual(Code(p, 12, UNITS[:most] * 2).k, most)
            if most < 12:
                self.assert_refused("large", p, 12, UNITS[:most + 1])
                self.assert_refused("large", p, most + 1, all_units(most + 1))
                self.assert_refused("large", p, 12, UNITS)

    def test_the_order_of_the_errors(self):
        for p in (4, True, "2", None):
            self.assert_malformed(p, 13, ())
            self.assert_malformed(p, -1, None)
            self.assert_malformed(p, 13, None)
        self.assert_malformed(2, True, None)
        self.assert_refused("length", 2, 13, None)
        self.assert_refused("length", 2, 13, ((5,),))
        self.assert_refused("length", 3, 13, all_units(13))
        self.assert_malformed(3, 12, UNITS + ((0,),))
        self.assert_malformed(3, 12, UNITS + ((3,) * 12,))


def all_units(n):
    """The unit words of a length, which span all of its words."""
    return tuple(tuple(int(at == place) for at in range(n)) for place in range(n))


class Rows(unittest.TestCase):
    def test_fields(self):
        code = Code(3, 3, ((2, 1, 0), (1, 1, 1)))
        self.assertEqual((code.p, code.n, code.rows, code.k), (3, 3, ((1, 0, 2), (0, 1, 2)), 2))

    def test_rows_are_the_reduced_table(self):
        for p, n, rows in small_tables():
            expected = reduced(rows, n, p)[0]
            for given in (rows, list(rows)):
                code = Code(p, n, given)
                self.assertEqual((code.p, code.n, code.rows, code.k), (p, n, expected, len(expected)))
                self.assertIs(type(code.rows), tuple)
                self.assertEqual(code.size(), p ** len(expected))

    def test_rows_of_zeros_and_rows_told_twice(self):
        code = Code(5, 3, [(0, 0, 0), (2, 1, 0), (0, 0, 0), (2, 1, 0), (4, 2, 0)])
        self.assertEqual((code.rows, code.k, code.size()), (((1, 3, 0),), 1, 5))
        self.assertEqual(Code(5, 3, ((0, 0, 0),)).rows, ())

    def test_the_length_zero(self):
        for p in PRIMES:
            for rows in ((), [], ((),), [(), ()]):
                code = Code(p, 0, rows)
                self.assertEqual((code.p, code.n, code.rows, code.k, code.size()), (p, 0, (), 0, 1))
                self.assertEqual(list(code.words()), [()])
                self.assertEqual((code.checks(), code.syndrome(()), code.dual()), ((), (), code))

    def test_a_list_that_changes_later_does_not_change_the_code(self):
        rows = [(1, 0, 1), (0, 1, 1)]
        code = Code(2, 3, rows)
        kept = list(rows)
        list(code.words())
        self.assertEqual(rows, kept)
        rows[0] = (0, 0, 0)
        rows.append((0, 0, 1))
        self.assertEqual(code.rows, ((1, 0, 1), (0, 1, 1)))
        self.assertEqual(code, Code(2, 3, kept))


class Equality(unittest.TestCase):
    def test_equal_exactly_for_equal_words(self):
        codes = [(Code(p, n, rows), (p, n, words)) for p, n, rows, words in small_codes()]
        for (one, told), (other, told_other) in product(codes, repeat=2):
            self.assertIs(one == other, told == told_other)
            self.assertIs(one != other, told != told_other)

    def test_other_rows_of_the_same_code(self):
        for p, n, rows, words in sample_codes():
            code = Code(p, n, rows)
            self.assertEqual(Code(p, n, sorted(words)), code)
            self.assertEqual(Code(p, n, rows[::-1] + rows[:1]), code)

    def test_unlike_primes_or_lengths(self):
        codes = [Code(p, n, ()) for p in PRIMES for n in range(4)]
        for one, other in combinations(codes, 2):
            self.assertIs(one == other, False)

    def test_other_values(self):
        code = Code(2, 2, ((1, 1),))
        for value in (*ODD_VALUES, 0, 2, "2 2: 11", ((1, 1),), (2, 2, ((1, 1),)), str, Code, NoText(0), [code], (code,)):
            self.assertIs(code == value, False)
            self.assertIs(code != value, True)
            self.assertIs(value == code, False)


class Words(unittest.TestCase):
    def test_all_words_ascending(self):
        for p, n, rows, words in brute_codes():
            self.assertEqual(list(Code(p, n, rows).words()), sorted(words))

    def test_large_codes(self):
        for p, n, rows in known_codes():
            code = Code(p, n, rows)
            found = list(code.words())
            self.assertEqual(len(found), code.size())
            self.assertEqual(found, sorted(set(found)))
            self.assertTrue(all(code.holds(word) for word in found))

    def test_a_new_generator_each_time(self):
        code = Code(2, 3, ((1, 0, 1),))
        first = code.words()
        self.assertIs(iter(first), first)
        self.assertEqual(next(first), (0, 0, 0))
        self.assertEqual(list(code.words()), [(0, 0, 0), (1, 0, 1)])
        self.assertEqual(list(first), [(1, 0, 1)])

    def test_holds(self):
        for p, n, rows, words in brute_codes():
            code = Code(p, n, rows)
            for word in all_words(p, n):
                self.assertIs(code.holds(word), word in words)

    def test_holds_for_other_values(self):
        code = Code(7, 2, ((1, 0), (0, 1)))
        values = [*ODD_VALUES, 0, "00", [0, 0], (0,), (0, 0, 0), (0, 7), (-1, 0), (True, 0), (0, False), (0, 0.0),
                  ("0", "0"), ((0, 0),), range(2), code, code.rows, NoText(0)]
        for value in values:
            self.assertIs(code.holds(value), False, value)
        empty = Code(7, 0, ())
        self.assertIs(empty.holds(()), True)
        for value in ([], "", None, 0, False, (0,), ((),)):
            self.assertIs(empty.holds(value), False, value)


class Duals(unittest.TestCase):
    def test_the_dual(self):
        for p, n, rows, words in brute_codes():
            code = Code(p, n, rows)
            dual = code.dual()
            expected = [word for word in all_words(p, n) if not any(product_of(word, row, p) for row in rows)]
            self.assertEqual(list(dual.words()), expected)
            self.assertEqual((dual.p, dual.n, dual.k), (p, n, n - code.k))
            self.assertEqual(dual.dual(), code)

    def test_duals_with_too_many_words(self):
        for p in PRIMES:
            most = DEEPEST[p]
            for n in range(13):
                for k in range(min(most, n) + 1):
                    code = Code(p, n, all_units(n)[:k])
                    if n - k <= most:
                        self.assertEqual(code.dual().size(), p ** (n - k))
                    else:
                        with self.assertRaises(Refused) as caught:
                            code.dual()
                        self.assertEqual(caught.exception.reason, "large")

    def test_parity_checks(self):
        for p, n, rows, words in brute_codes():
            code = Code(p, n, rows)
            self.assertIs(type(code.checks()), tuple)
            self.assertEqual(code.checks(), kernel(code.rows, n, p))
            self.assertEqual(len(code.checks()), n - code.k)
            self.assertEqual(span(code.checks(), n, p), set(code.dual().words()))
        self.assertEqual(Code(2, 4, ((1, 0, 1, 1), (0, 1, 0, 1))).checks(), ((1, 0, 1, 0), (1, 1, 0, 1)))
        self.assertEqual(len(Code(7, 12, ()).checks()), 12)

    def test_syndromes(self):
        for p, n, rows, words in small_codes():
            code = Code(p, n, rows)
            cosets = {}
            for word in all_words(p, n):
                found = code.syndrome(word)
                self.assertTrue(is_plain_word(found, p, n - code.k))
                self.assertEqual(found, tuple(product_of(word, check, p) for check in code.checks()))
                self.assertEqual(not any(found), word in words)
                cosets.setdefault(found, set()).add(word)
            for coset in cosets.values():
                self.assertEqual(coset, {sum_words(min(coset), word, p) for word in words})

    def test_syndromes_of_other_values(self):
        code = Code(3, 2, ((1, 1),))
        for value in (*ODD_VALUES, 0, "00", [0, 0], (0,), (0, 0, 0), (0, 3), (-1, 0), (True, 0), (0, 1.0), code):
            with self.assertRaises(Malformed):
                code.syndrome(value)
        with self.assertRaises(Malformed):
            Code(3, 0, ()).syndrome([])


class SumsAndCommonParts(unittest.TestCase):
    def test_against_all_words(self):
        for p, n in ((2, 3), (3, 2), (5, 2), (7, 1), (2, 0)):
            spaces = [(Code(p, n, rows), words) for q, m, rows, words in small_codes() if (q, m) == (p, n)]
            for (a, of_a), (b, of_b) in product(spaces, repeat=2):
                both = sum_of(a, b)
                self.assertEqual(set(both.words()), {sum_words(v, w, p) for v in of_a for w in of_b})
                self.assertEqual(set(common_part(a, b).words()), of_a & of_b)

    def test_larger_codes(self):
        samples = sample_codes()
        for (p, n, rows, words), (q, m, others, other_words) in zip(samples, samples[1:]):
            if (p, n) == (q, m):
                a, b = Code(p, n, rows), Code(p, n, others)
                self.assertEqual(set(sum_of(a, b).words()), span(rows + others, n, p))
                self.assertEqual(set(common_part(a, b).words()), words & other_words)
                self.assertEqual((a, b), (Code(p, n, rows), Code(p, n, others)))

    def test_unlike_codes(self):
        for a, b in ((Code(2, 3, ()), Code(3, 3, ())), (Code(2, 3, ()), Code(2, 2, ())),
                     (Code(3, 12, UNITS[:7]), Code(5, 12, UNITS[:5])), (Code(2, 0, ()), Code(2, 12, ()))):
            for first, second in ((a, b), (b, a)):
                for function in (sum_of, common_part):
                    with self.assertRaises(Malformed):
                        function(first, second)

    def test_too_many_words(self):
        for p in (3, 5, 7):
            a, b = Code(p, 12, UNITS[:DEEPEST[p]]), Code(p, 12, UNITS[1:DEEPEST[p] + 1])
            with self.assertRaises(Refused) as caught:
                sum_of(a, b)
            self.assertEqual(caught.exception.reason, "large")
            self.assertEqual(common_part(a, b), Code(p, 12, UNITS[1:DEEPEST[p]]))
            self.assertEqual(common_part(a, Code(p, 12, ())), Code(p, 12, ()))


class Text(unittest.TestCase):
    def assert_no_text(self, text):
        with self.assertRaises(NoText) as caught:
            read_code(text)
        self.assertEqual(caught.exception.at, 0)

    def test_the_told_texts(self):
        self.assertEqual(str(Code(2, 4, ((1, 0, 1, 0), (0, 1, 0, 1)))), "2 4: 1010 0101")
        self.assertEqual(str(Code(3, 3, ((2, 1, 0), (1, 1, 1)))), "3 3: 102 012")
        self.assertEqual(str(Code(5, 4, ())), "5 4:")
        self.assertEqual(str(Code(7, 0, ())), "7 0:")
        self.assertEqual(str(Code(7, 12, ((0,) * 11 + (3,),))), "7 12: 000000000001")

    def test_each_text_is_read_back(self):
        told = [Code(p, n, rows) for p, n, rows, words in brute_codes()]
        told += [Code(p, n, rows) for p, n, rows in known_codes()]
        told += [Code(p, 12, ()) for p in PRIMES]
        for code in told:
            text = str(code)
            self.assertEqual(text, f"{code.p} {code.n}:" + "".join(
                " " + "".join(map(str, row)) for row in code.rows))
            found = read_code(text)
            self.assertIs(type(found), Code)
            self.assertEqual(found, code)

    def test_rows_in_another_form(self):
        for text in ("2 4: 0101 1010", "2 4: 1010 1111", "2 4: 1010 0101 0000", "2 4: 0000", "2 4: 1010 1010",
                     "3 3: 210 111", "3 2: 20", "3 3: 012 102", "5 2: 31", "2 0: -", "2 1: -", "2 0: 0", "2 0: 1"):
            self.assert_no_text(text)

    def test_rows_of_another_length_or_with_other_digits(self):
        for text in ("2 4: 101", "2 4: 10100", "2 4: 1010 010", "2 4: 1020", "3 3: 103", "7 1: 7", "7 1: 1a",
                     "2 4: 1010 -", "2 4: 10 10", "2 2: \u0661\u0660", "2 2: 1\uff10", "2 4: 1010, 0101", "2 1: +1"):
            self.assert_no_text(text)

    def test_spaces_and_colons(self):
        for text in ("2 4:  1010 0101", "2 4: 1010  0101", "2 4: 1010 0101 ", " 2 4: 1010 0101", "2  4: 1010 0101",
                     "2 4 : 1010 0101", "2 4:1010 0101", "2 4: 10100101", "2 4 1010 0101", "24: 1010 0101",
                     "2 4:: 1010 0101", "2 4: 1010: 0101", "2 4: 1010 0101:", "2 4: 1010\n0101", "2 4: 1010 0101\n",
                     "2\t4: 1010 0101", "2 4: ", "2 4", "2: 4", ": ", ":", "", " ", "2 4:\n", "4:", "2:", "2 :",
                     " 4:", "2 4 3:", "2 4:\u00a01010"):
            self.assert_no_text(text)

    def test_numbers(self):
        for text in ("02 4:", "2 04:", "2 00:", "2 012:", "+2 4:", "2 +4:", "2 -4:", "2 -0:", "4 4:", "0 4:", "1 4:",
                     "11 4:", "2 13:", "2 99:", "2 100000000000000000000:", "2.0 4:", "\u0662 4:", "2 \u0664:",
                     "2 4.:", "2 1_2:", "two 4:", "2 four:", "2 0x4:", "9 4:", "-3 4:", "2 12 :", "2 1 2:"):
            self.assert_no_text(text)

    def test_too_many_words(self):
        for p in (3, 5, 7):
            most = DEEPEST[p]
            for k in (most, most + 1):
                text = f"{p} 12:" + "".join(" " + "".join(map(str, row)) for row in UNITS[:k])
                if k == most:
                    self.assertEqual(read_code(text), Code(p, 12, UNITS[:k]))
                else:
                    self.assert_no_text(text)

    def test_other_values(self):
        values = [*ODD_VALUES, 0, 2, 24, (2, 4), ["2 4:"], ("2 4:",), b"2 4:", Code(2, 4, ()), NoText(0), Code, read_word]
        for value in values:
            self.assert_no_text(value)

    def test_every_string_that_is_read_is_told_so(self):
        for signs in product("2 01:-", repeat=6):
            text = "".join(signs)
            try:
                code = read_code(text)
            except NoText:
                continue
            self.assertEqual(str(code), text)


if __name__ == "__main__":
    unittest.main()
