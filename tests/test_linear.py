import unittest
from itertools import product

from brute import (ODD_VALUES, PRIMES, all_words, is_plain_word, larger_tables, product_of, small_tables, span,
                   total)
from weightkeepers.errors import Malformed, NoText, Refused
from weightkeepers.linear import add, combine, coordinates, dot, is_word, kernel, reduced, scaled, solve

FACTORS = (0, 1, -1, 2, 3, 4, 6, 7, -8, 25, 10 ** 30 + 1, -10 ** 30 - 1)


def tables():
    """All tables of the tests."""
    yield from small_tables()
    yield from larger_tables()


def free_places(pivots, width):
    """The places that are no pivots, ascending."""
    return [at for at in range(width) if at not in pivots]


class IsWord(unittest.TestCase):
    def test_all_words(self):
        for p in PRIMES:
            for n in range(4):
                for word in all_words(p, n):
                    self.assertIs(is_word(word, p, n), True)
        self.assertIs(is_word((6,) * 12, 7, 12), True)

    def test_other_lengths(self):
        for word in ((), (0,), (1, 0), (1, 0, 1), (0,) * 12):
            for n in range(14):
                self.assertIs(is_word(word, 2, n), len(word) == n)

    def test_items_outside(self):
        for p in PRIMES:
            for item in (-1, -p, p, p + 1, 10 ** 30, -10 ** 30):
                for word in ((item, 0, 0), (0, item, 0), (0, 0, item)):
                    self.assertIs(is_word(word, p, 3), False, (word, p))

    def test_items_true_and_false(self):
        for item in (True, False):
            for word in ((item, 0), (0, item), (item, item)):
                for p in PRIMES:
                    self.assertIs(is_word(word, p, 2), False)

    def test_items_of_other_kinds(self):
        for item in (*ODD_VALUES, "1", Refused("inverse"), (0, 1), [0]):
            for word in ((item, 0), (0, item), (item, item)):
                self.assertIs(is_word(word, 7, 2), False, word)

    def test_values_of_other_kinds(self):
        values = [value for value in ODD_VALUES if value != ()]
        values += [0, 1, -1, [0], [0, 1, 1], "011", "01", range(2), Malformed("form"), NoText(0)]
        for value in values:
            for n in range(4):
                self.assertIs(is_word(value, 7, n), False, (value, n))

    def test_the_word_of_the_length_zero(self):
        for p in PRIMES:
            self.assertIs(is_word((), p, 0), True)
            for value in ([], "", None, 0, False, (0,), ((),)):
                self.assertIs(is_word(value, p, 0), False, value)


class Words(unittest.TestCase):
    def test_add(self):
        self.assertEqual(add((1, 2, 2), (1, 1, 2), 3), (2, 0, 1))
        self.assertEqual(add((), (), 5), ())
        for p in PRIMES:
            for v, w in product(all_words(p, 2), repeat=2):
                self.assertEqual(add(v, w, p), total((v, w), (1, 1), 2, p))

    def test_scaled(self):
        self.assertEqual(scaled((1, 2, 0), 2, 3), (2, 1, 0))
        self.assertEqual(scaled((1, 2, 3), -1, 7), (6, 5, 4))
        self.assertEqual(scaled((1, 2, 3), 9, 5), (4, 3, 2))
        for p in PRIMES:
            for a in FACTORS:
                self.assertEqual(scaled((), a, p), ())
                for v in all_words(p, 2):
                    self.assertEqual(scaled(v, a, p), total((v,), (a,), 2, p))

    def test_dot(self):
        self.assertEqual(dot((1, 2, 2), (1, 1, 2), 3), 1)
        self.assertEqual(dot((1, 1), (1, 1), 2), 0)
        self.assertEqual(dot((6,) * 12, (6,) * 12, 7), 5)
        for p in PRIMES:
            self.assertEqual(dot((), (), p), 0)
            for v, w in product(all_words(p, 2), repeat=2):
                self.assertEqual(dot(v, w, p), product_of(v, w, p))

    def test_results_are_words(self):
        for p in PRIMES:
            v, w = (p - 1, 1, 0), (p - 1, p - 1, 1)
            self.assertTrue(is_plain_word(add(v, w, p), p, 3))
            self.assertTrue(is_plain_word(scaled(v, -5, p), p, 3))
            self.assertTrue(is_plain_word((dot(v, w, p),), p, 1))
            self.assertTrue(is_plain_word(combine((v, w), (-1, 9), 3, p), p, 3))


class Combine(unittest.TestCase):
    def test_ordinary(self):
        self.assertEqual(combine(((1, 0, 2), (0, 1, 2)), (2, 1), 3, 3), (2, 1, 0))
        self.assertEqual(combine([(1, 0), (1, 1)], [-1, 8], 2, 7), (0, 1))

    def test_against_sums(self):
        for p, width, rows in larger_tables():
            for shift in range(4):
                factors = tuple(FACTORS[(at + shift) % len(FACTORS)] for at in range(len(rows)))
                expected = total(rows, factors, width, p)
                self.assertEqual(combine(rows, factors, width, p), expected)
                self.assertEqual(combine(list(rows), list(factors), width, p), expected)

    def test_no_rows(self):
        for p in PRIMES:
            for width in (0, 1, 5, 12):
                self.assertEqual(combine((), (), width, p), (0,) * width)
                self.assertEqual(combine([], [], width, p), (0,) * width)

    def test_width_zero(self):
        for p in PRIMES:
            self.assertEqual(combine(((), ()), (1, 5), 0, p), ())


class Reduced(unittest.TestCase):
    def assert_reduced(self, rows, pivots, width, p):
        self.assertIs(type(rows), tuple)
        self.assertIs(type(pivots), tuple)
        self.assertEqual(len(rows), len(pivots))
        for row in rows:
            self.assertTrue(is_plain_word(row, p, width), row)
        for at, (row, pivot) in enumerate(zip(rows, pivots)):
            self.assertEqual([place for place in range(width) if row[place]][0], pivot)
            self.assertEqual([other[pivot] for other in rows], [int(k == at) for k in range(len(rows))])
        self.assertEqual(list(pivots), sorted(set(pivots)))

    def test_the_example(self):
        self.assertEqual(reduced(((2, 1, 0), (1, 1, 1)), 3, 3), (((1, 0, 2), (0, 1, 2)), (0, 1)))

    def test_form_and_span(self):
        for p, width, rows in tables():
            table, pivots = reduced(rows, width, p)
            self.assert_reduced(table, pivots, width, p)
            self.assertEqual(reduced(table, width, p), (table, pivots))
            self.assertTrue(all(reduced((*table, row), width, p)[0] == table for row in rows))

    def test_spans_are_equal(self):
        for p, width, rows in small_tables():
            table, _ = reduced(rows, width, p)
            self.assertEqual(span(table, width, p), span(rows, width, p))

    def test_one_table_for_each_span(self):
        for p, width, count in ((2, 3, 3), (3, 2, 2), (5, 2, 2)):
            tables_of = {}
            for rows in product(all_words(p, width), repeat=count):
                tables_of.setdefault(frozenset(span(rows, width, p)), set()).add(reduced(rows, width, p))
            self.assertEqual({len(found) for found in tables_of.values()}, {1})

    def test_pivots_that_skip_places(self):
        found = reduced(((0, 2, 1, 0, 1), (0, 0, 0, 3, 1)), 5, 5)
        self.assertEqual(found, (((0, 1, 3, 0, 3), (0, 0, 0, 1, 2)), (1, 3)))

    def test_rows_of_zeros_and_rows_told_twice(self):
        self.assertEqual(reduced(((0, 0), (0, 0)), 2, 2), ((), ()))
        self.assertEqual(reduced(((0, 0), (2, 1), (0, 0), (2, 1), (1, 2)), 2, 3), (((1, 2),), (0,)))

    def test_no_rows_and_the_width_zero(self):
        for p in PRIMES:
            for width in (0, 1, 12):
                self.assertEqual(reduced((), width, p), ((), ()))
                self.assertEqual(reduced([], width, p), ((), ()))
            self.assertEqual(reduced(((), ()), 0, p), ((), ()))

    def test_lists(self):
        for p, width, rows in larger_tables():
            self.assertEqual(reduced(list(rows), width, p), reduced(rows, width, p))


class Kernel(unittest.TestCase):
    def test_ordinary(self):
        self.assertEqual(kernel(((2, 1, 0), (1, 1, 1)), 3, 3), ((1, 1, 1),))
        self.assertEqual(kernel(((1, 0, 1, 1), (0, 1, 0, 1)), 4, 2), ((1, 0, 1, 0), (1, 1, 0, 1)))
        self.assertEqual(kernel([(0, 1, 2)], 3, 5), ((1, 0, 0), (0, 3, 1)))

    def test_one_word_for_each_free_place(self):
        for p, width, rows in tables():
            found = kernel(rows, width, p)
            free = free_places(reduced(rows, width, p)[1], width)
            self.assertIs(type(found), tuple)
            self.assertEqual(len(found), len(free))
            for at, word in zip(free, found):
                self.assertTrue(is_plain_word(word, p, width))
                self.assertEqual([word[place] for place in free], [int(place == at) for place in free])
                self.assertEqual([product_of(row, word, p) for row in rows], [0] * len(rows))

    def test_all_words_with_product_zero(self):
        for p, width, rows in small_tables():
            expected = {word for word in all_words(p, width) if not any(product_of(row, word, p) for row in rows)}
            self.assertEqual(span(kernel(rows, width, p), width, p), expected)

    def test_no_rows(self):
        for p in PRIMES:
            self.assertEqual(kernel((), 3, p), ((1, 0, 0), (0, 1, 0), (0, 0, 1)))
            self.assertEqual(kernel([], 0, p), ())

    def test_full_rank(self):
        for p in PRIMES:
            self.assertEqual(kernel(((1, 1), (0, 1)), 2, p), ())
            self.assertEqual(kernel(((),), 0, p), ())


class Solve(unittest.TestCase):
    def assert_solved(self, rows, width, right, p):
        """The right sides belong to some word; the one that is found has the told form."""
        found = solve(rows, width, right, p)
        self.assertTrue(is_plain_word(found, p, width), found)
        self.assertEqual([product_of(row, found, p) for row in rows], [goal % p for goal in right])
        free = free_places(reduced(rows, width, p)[1], width)
        self.assertEqual([found[at] for at in free], [0] * len(free))

    def test_ordinary(self):
        self.assertEqual(solve(((2, 1, 0), (1, 1, 1)), 3, (1, 2), 3), (2, 0, 0))
        self.assertEqual(solve([(0, 1, 2), (0, 0, 3)], 3, [4, 1], 5), (0, 0, 2))

    def test_right_sides_of_words(self):
        for p, width, rows in tables():
            word = tuple((3 * at + 1) % p for at in range(width))
            right = [product_of(row, word, p) for row in rows]
            self.assert_solved(rows, width, right, p)
            self.assert_solved(rows, width, tuple(right), p)
            self.assert_solved(rows, width, [goal + p * FACTORS[-at] for at, goal in enumerate(right)], p)

    def test_every_right_side(self):
        for p, width, rows in ((2, 3, ((1, 0, 1), (0, 1, 1), (1, 1, 0))), (3, 2, ((1, 2), (2, 1), (0, 0))),
                               (5, 2, ((0, 2), (0, 0))), (7, 1, ((3,), (5,))), (2, 0, ((), ()))):
            reached = {tuple(product_of(row, word, p) for row in rows) for word in all_words(p, width)}
            for right in all_words(p, len(rows)):
                if right in reached:
                    self.assert_solved(rows, width, right, p)
                else:
                    self.assertIsNone(solve(rows, width, right, p))

    def test_any_integers_as_right_sides(self):
        self.assertEqual(solve(((1, 0), (0, 1)), 2, (-1, 10 ** 30), 7), (6, 10 ** 30 % 7))
        self.assertEqual(solve(((1, 0), (1, 0)), 2, (-4, 8), 3), (2, 0))
        self.assertIsNone(solve(((1, 0), (1, 0)), 2, (-4, 9), 3))
        self.assertEqual(solve(((0, 0),), 2, (-14,), 7), (0, 0))
        self.assertIsNone(solve(((0, 0),), 2, (-15,), 7))

    def test_no_rows(self):
        for p in PRIMES:
            for width in (0, 1, 12):
                self.assertEqual(solve((), width, (), p), (0,) * width)
                self.assertEqual(solve([], width, [], p), (0,) * width)

    def test_width_zero(self):
        for p in PRIMES:
            self.assertEqual(solve(((), ()), 0, (0, p), p), ())
            self.assertIsNone(solve(((), ()), 0, (0, 1), p))


class Coordinates(unittest.TestCase):
    def test_ordinary(self):
        self.assertEqual(coordinates(((2, 1, 0), (1, 1, 1)), (0, 2, 1), 3), (1, 1))
        self.assertIsNone(coordinates(((2, 1, 0), (1, 1, 1)), (0, 0, 1), 3))
        self.assertEqual(coordinates([(0, 3), (2, 1)], (1, 0), 7), (1, 4))

    def test_every_word(self):
        for p, width, rows in small_tables():
            sums = {}
            for factors in product(range(p), repeat=len(rows)):
                sums.setdefault(total(rows, factors, width, p), []).append(factors)
            # Only independent rows have one sum for each choice of multiples.
            if len(sums) == p ** len(rows):
                for word in all_words(p, width):
                    expected = sums.get(word, [None])[0]
                    self.assertEqual(coordinates(rows, word, p), expected)
                    self.assertEqual(coordinates(list(rows), word, p), expected)

    def test_multiples_are_words(self):
        for p, width, rows in larger_tables():
            base = reduced(rows, width, p)[0]
            factors = tuple(FACTORS[at + 4] % p for at in range(len(base)))
            found = coordinates(base, total(base, factors, width, p), p)
            self.assertTrue(is_plain_word(found, p, len(base)))
            self.assertEqual(found, factors)

    def test_no_rows(self):
        for p in PRIMES:
            self.assertEqual(coordinates((), (), p), ())
            self.assertEqual(coordinates((), (0, 0), p), ())
            self.assertEqual(coordinates([], (0,) * 12, p), ())
            self.assertIsNone(coordinates((), (0, 1), p))


class Arguments(unittest.TestCase):
    def test_lists_stay_as_they_were(self):
        rows = [(0, 2, 1), (1, 1, 1), (0, 0, 0), (0, 2, 1)]
        base = [(0, 2, 1), (1, 1, 1)]
        right = [-4, 8, 3, 11]
        kept = (list(rows), list(base), list(right))
        combine(rows, right, 3, 3)
        reduced(rows, 3, 3)
        kernel(rows, 3, 3)
        solve(rows, 3, right, 3)
        coordinates(base, (1, 0, 2), 3)
        is_word(rows, 3, 3)
        self.assertEqual((rows, base, right), kept)

    def test_equal_arguments_give_equal_results(self):
        for p, width, rows in larger_tables():
            again = [tuple(list(row)) for row in rows]
            right = [1] * len(rows)
            self.assertEqual(reduced(rows, width, p), reduced(again, width, p))
            self.assertEqual(kernel(rows, width, p), kernel(again, width, p))
            self.assertEqual(solve(rows, width, right, p), solve(again, width, right, p))
            self.assertEqual(combine(rows, right, width, p), combine(again, right, width, p))


if __name__ == "__main__":
    unittest.main()
