import ast
import unittest
from itertools import chain, combinations, permutations, product
from pathlib import Path
from random import Random
from unittest.mock import patch

from brute import (ODD_VALUES, PRIMES, all_words, distance_of, known_codes, monomials, moved, plain_levels,
                   sample_codes, small_codes, spoiled, total, weight_of)
from weightkeepers import checker, forms
from weightkeepers.build import of_parity_checks, repetition_code, whole_code, zero_code, zero_sum_code
from weightkeepers.checker import takes_distance, takes_map, takes_nearest, takes_pair
from weightkeepers.code import Code, read_code
from weightkeepers.errors import NoText, Refused
from weightkeepers.forms import levels
from weightkeepers.monomial import Monomial, identity
from weightkeepers.papers import distance_paper, map_paper, nearest_paper, pair_paper


def deep(value, depth):
    """The value in many tuples."""
    for _ in range(depth):
        value = (value,)
    return value


def deep_list(depth):
    """Many lists in one another."""
    value = []
    for _ in range(depth):
        value = [value]
    return value


# Values that are no papers of any kind.
NO_PAPERS = [
    *ODD_VALUES, 0, 1, -5, "distance", ("distance",), ("alike",), ("keeps",), ("nearest",), ("changes",), ("unlike",),
    ("alike", (), ()), ("keeps", (), ()), ("distance", 0, ()), ("distance", 1, ()), ("nearest", 0, ()),
    ("changes", ()), ("distance", None, None), ("alike", None, None), ("unlike", None, None), ("keeps", None, None),
    ("nearest", None, None), ("changes", None), ("unlike", [], []), ("unlike", (), []), ("unlike", 0, 0),
    ("unlike", ((),), ((),)), (("alike",), (), ()), (0, 0, 0), ("", "", ""), (None,) * 3, (True, False, True),
    ("unlike", deep((), 5000), deep((), 5000)), ("alike", deep(0, 5000), deep(1, 5000)), deep("distance", 5000),
    ("distance", 1, deep(0, 5000)), ("nearest", 1, deep(0, 5000)), ("keeps", deep(0, 5000), ()), deep_list(5000),
    ("changes", deep(0, 5000)), ("distance", 1, deep_list(5000)), ("nearest", deep((), 5000), deep_list(5000)),
    (deep("alike", 5000), (), ()), ("alike", zero_code(2, 2), identity(2, 2)), zero_code(2, 2), identity(2, 2),
    (zero_code(2, 2), 1, 1), (identity(2, 2), 1, 1), ("alike", identity(2, 2), identity(2, 2)), NoText(0),
    ("distance", zero_code(2, 2), zero_code(2, 2)), ("nearest", identity(2, 2), zero_code(2, 2)),
    ("keeps", zero_code(2, 2), (1, 1)), ("changes", zero_code(2, 2)), ("changes", NoText(0)), Refused("zero"),
]


class Checking(unittest.TestCase):
    def assert_refuses(self, takes, papers):
        """The checker answers False, without an error."""
        for paper in papers:
            self.assertIs(takes(paper), False, paper)

    def assert_refuses_spoiled(self, takes, paper):
        """The checker accepts the paper, but none that is spoiled, and none with another first word."""
        self.assertIs(takes(paper), True)
        self.assert_refuses(takes, spoiled(paper))
        for title in ("distance", "alike", "unlike", "keeps", "changes", "nearest", "", "Alike", 0, None, ()):
            if title != paper[0]:
                self.assertIs(takes((title, *paper[1:])), False)


class Distances(Checking):
    def test_exactly_the_papers_of_small_codes(self):
        for p, n, rows, words in small_codes():
            code = Code(p, n, rows)
            least = min([weight_of(word) for word in words if any(word)], default=None)
            for d in range(-1, n + 2):
                for word in all_words(p, n):
                    expected = word in words and least is not None and weight_of(word) == least == d
                    self.assertIs(takes_distance(code, ("distance", d, word)), expected)

    def test_larger_codes(self):
        for p, n, rows in known_codes():
            code = Code(p, n, rows)
            title, d, word = distance_paper(code)
            self.assertIs(takes_distance(code, (title, d, word)), True)
            double = tuple(item * (p - 1) % p for item in word)
            self.assertIs(takes_distance(code, (title, d, double)), True)
            heavy = max(code.words(), key=weight_of)
            self.assertIs(takes_distance(code, (title, weight_of(heavy), heavy)), weight_of(heavy) == d)
            self.assertIs(takes_distance(code, (title, d + 1, word)), False)
            self.assertIs(takes_distance(code, (title, d - 1, word)), False)

    def test_the_zero_word_alone(self):
        for p in PRIMES:
            for n in (0, 1, 3):
                papers = [("distance", d, word) for d in range(-1, n + 2) for word in [(0,) * n, (1,) * n]]
                self.assert_refuses(lambda paper: takes_distance(zero_code(p, n), paper), papers + NO_PAPERS)

    def test_wrong_values(self):
        for code in (whole_code(2, 1), whole_code(7, 2), read_code("3 4: 1011 0112"), zero_sum_code(2, 5)):
            self.assert_refuses(lambda paper: takes_distance(code, paper), NO_PAPERS)
            self.assert_refuses_spoiled(lambda paper: takes_distance(code, paper), distance_paper(code))
        self.assertIs(takes_distance(whole_code(2, 2), ("distance", True, (0, 1))), False)
        self.assertIs(takes_distance(whole_code(2, 2), ("distance", 1, (False, True))), False)
        self.assertIs(takes_distance(whole_code(2, 2), ["distance", 1, (0, 1)]), False)


class Nearest(Checking):
    def test_exactly_the_papers_of_small_codes(self):
        for p, n, rows, words in small_codes():
            if len(words) > 4:
                continue
            code = Code(p, n, rows)
            lists = chain.from_iterable(permutations(sorted(words), count) for count in range(len(words) + 1))
            found = list(lists) + [(word, word) for word in words]
            for word in all_words(p, n)[:40]:
                least = min(distance_of(word, other) for other in words)
                right = tuple(sorted(other for other in words if distance_of(word, other) == least))
                for d, told in product(range(-1, n + 1), found):
                    expected = (d, told) == (least, right)
                    self.assertIs(takes_nearest(code, word, ("nearest", d, told)), expected)

    def test_changed_papers(self):
        for p, n, rows, words in sample_codes():
            code = Code(p, n, rows)
            for word in all_words(p, n)[::97]:
                title, d, told = nearest_paper(code, word)
                other = [found for found in sorted(words) if found not in told]
                wrong = [(title, d, told[1:]), (title, d, told[:-1]), (title, d, told + told[:1]), (title, d, ())]
                wrong += [(title, d + 1, told), (title, d - 1, told)]
                if len(told) > 1:
                    wrong.append((title, d, told[::-1]))
                if other:
                    wrong += [(title, d, tuple(sorted((*told, other[0])))), (title, d, (other[0], *told[1:]))]
                    # All words at another distance.
                    far = distance_of(word, other[0])
                    wrong.append((title, far, tuple(found for found in other if distance_of(word, found) == far)))
                self.assertIs(takes_nearest(code, word, (title, d, told)), True)
                self.assert_refuses(lambda paper: takes_nearest(code, word, paper), wrong)

    def test_wrong_values(self):
        for code, word in ((zero_code(2, 0), ()), (zero_code(2, 2), (0, 1)), (read_code("2 2: 11"), (0, 1)),
                           (read_code("3 4: 1011 0112"), (1, 0, 0, 0)), (whole_code(5, 2), (1, 0))):
            papers = [paper for paper in NO_PAPERS if paper != ("nearest", 0, ((),))]
            self.assert_refuses(lambda paper: takes_nearest(code, word, paper), papers)
            self.assert_refuses_spoiled(lambda paper: takes_nearest(code, word, paper), nearest_paper(code, word))
        self.assertIs(takes_nearest(read_code("2 2: 11"), (0, 1), ("nearest", True, ((0, 0), (1, 1)))), False)
        self.assertIs(takes_nearest(read_code("2 2: 11"), (0, 1), ("nearest", 1, ((0, 0), (1, True)))), False)
        self.assertIs(takes_nearest(read_code("2 2: 11"), (0, 1), ("nearest", 1, [(0, 0), (1, 1)])), False)


class Maps(Checking):
    def test_exactly_the_papers_of_small_codes(self):
        for p, n, rows, words in small_codes():
            code = Code(p, n, rows)
            if p ** (n * code.k) > 100 or (p, n) == (2, 4):
                continue
            maps = monomials(p, n)
            for images in product(all_words(p, n), repeat=code.k):
                pairs = {total(code.rows, factors, n, p): total(images, factors, n, p)
                         for factors in product(range(p), repeat=code.k)}
                for places, multiples in maps:
                    expected = all(moved(places, multiples, word, p) == pairs[word] for word in pairs)
                    self.assertIs(takes_map(code, images, ("keeps", places, multiples)), expected)
                for word in all_words(p, n):
                    expected = word in pairs and weight_of(word) != weight_of(pairs[word])
                    self.assertIs(takes_map(code, images, ("changes", word)), expected)

    def test_places_told_twice_and_multiples_of_zero(self):
        code = read_code("3 2: 11")
        for places in product(range(-1, 3), repeat=2):
            for multiples in product(range(-1, 4), repeat=2):
                expected = sorted(places) == [0, 1] and multiples == (2, 2)
                self.assertIs(takes_map(code, ((2, 2),), ("keeps", places, multiples)), expected)
        # Places that are 0 in all words take any multiple, but not 0.
        code = zero_code(3, 2)
        for places in product(range(-1, 3), repeat=2):
            for multiples in product(range(-1, 4), repeat=2):
                expected = sorted(places) == [0, 1] and set(multiples) <= {1, 2}
                self.assertIs(takes_map(code, (), ("keeps", places, multiples)), expected)

    def test_the_dimension_zero(self):
        for p in PRIMES:
            self.assertIs(takes_map(zero_code(p, 0), (), ("keeps", (), ())), True)
            self.assertIs(takes_map(zero_code(p, 0), (), ("changes", ())), False)
            self.assertIs(takes_map(zero_code(p, 2), (), ("keeps", (1, 0), (1, p - 1))), True)
            self.assertIs(takes_map(zero_code(p, 2), (), ("changes", (0, 0))), False)
            self.assertIs(takes_map(zero_code(p, 2), (), ("keeps", (0,), (1,))), False)

    def test_larger_codes(self):
        for p, n, rows in known_codes():
            code = Code(p, n, rows)
            told = Monomial(p, tuple((at + 1) % n for at in range(n)), tuple(at % (p - 1) + 1 for at in range(n)))
            images = tuple(told.carried(row) for row in code.rows)
            self.assertIs(takes_map(code, images, ("keeps", told.places, told.multiples)), True)
            self.assertIs(takes_map(code, images, ("keeps", told.places[::-1], told.multiples)), False)
            for word in list(code.words())[::100]:
                self.assertIs(takes_map(code, images, ("changes", word)), False)
            images = ((0,) * n,) + images[1:]
            self.assertIs(takes_map(code, images, map_paper(code, images)), True)
            self.assertIs(takes_map(code, images, ("keeps", told.places, told.multiples)), False)

    def test_wrong_values(self):
        for code, images in ((read_code("2 2: 11"), ((1, 1),)), (read_code("2 2: 11"), ((1, 0),)),
                             (read_code("3 3: 102 012"), ((2, 0, 1), (0, 2, 1))),
                             (read_code("3 3: 102 012"), ((2, 0, 1), (0, 0, 1))), (zero_code(3, 2), ())):
            self.assert_refuses(lambda paper: takes_map(code, images, paper), NO_PAPERS)
            self.assert_refuses_spoiled(lambda paper: takes_map(code, images, paper), map_paper(code, images))
        code = read_code("2 2: 11")
        for paper in (("keeps", (True, False), (1, 1)), ("keeps", (1, 0), (True, 1)), ("keeps", [1, 0], (1, 1)),
                      ("keeps", (1, 0), [1, 1]), ["keeps", (1, 0), (1, 1)]):
            self.assertIs(takes_map(code, ((1, 1),), paper), False)
        self.assertIs(takes_map(code, ((1, 0),), ("changes", (True, True))), False)
        self.assertIs(takes_map(code, ((1, 0),), ("changes", [1, 1])), False)


class Alike(Checking):
    def test_exactly_the_maps_of_small_codes(self):
        shapes = {}
        for p, n, rows, words in small_codes():
            if (p, n) != (2, 4):
                shapes.setdefault((p, n), []).append((rows, words))
        for (p, n), codes in shapes.items():
            for (rows, words), (other_rows, other_words) in product(codes, repeat=2):
                a, b = Code(p, n, rows), Code(p, n, other_rows)
                for places, multiples in monomials(p, n):
                    expected = {moved(places, multiples, word, p) for word in words} == other_words
                    self.assertIs(takes_pair(a, b, ("alike", places, multiples)), expected)

    def test_places_and_multiples_of_all_kinds(self):
        a, b = read_code("3 2: 11"), read_code("3 2: 12")
        for places in product(range(-1, 3), repeat=2):
            for multiples in product(range(-1, 4), repeat=2):
                expected = sorted(places) == [0, 1] and multiples in ((1, 2), (2, 1))
                self.assertIs(takes_pair(a, b, ("alike", places, multiples)), expected)

    def test_unlike_shapes(self):
        codes = [zero_code(2, 2), zero_code(3, 2), zero_code(2, 3), repetition_code(2, 2), repetition_code(2, 3),
                 whole_code(2, 2), whole_code(3, 2), zero_sum_code(2, 3)]
        for a, b in product(codes, repeat=2):
            if (a.p, a.n, a.k) != (b.p, b.n, b.k):
                for n in (2, 3):
                    paper = ("alike", tuple(range(n)), (1,) * n)
                    self.assertIs(takes_pair(a, b, paper), False)

    def test_codes_with_too_many_tuples(self):
        for code in (whole_code(2, 12), whole_code(7, 4), zero_sum_code(2, 12)):
            n = code.n
            told = Monomial(code.p, tuple(range(n))[::-1], (code.p - 1,) * n)
            paper = ("alike", told.places, told.multiples)
            self.assertIs(takes_pair(code, told.code(code), paper), True)

    def test_wrong_values(self):
        for a, b in ((read_code("2 2: 11"), read_code("2 2: 11")), (read_code("3 3: 102"), read_code("3 3: 011")),
                     (zero_code(3, 2), zero_code(3, 2)), (zero_code(2, 3), zero_code(2, 3))):
            self.assert_refuses(lambda paper: takes_pair(a, b, paper), NO_PAPERS)
            self.assert_refuses_spoiled(lambda paper: takes_pair(a, b, paper), pair_paper(a, b))
        code = read_code("2 2: 11")
        for paper in (("alike", (True, False), (1, 1)), ("alike", (1, 0), (True, 1)), ("alike", [1, 0], (1, 1)),
                      ("alike", (1, 0), [1, 1]), ["alike", (1, 0), (1, 1)]):
            self.assertIs(takes_pair(code, code, paper), False)


class Unlike(Checking):
    def test_unlike_shapes(self):
        codes = [zero_code(2, 0), zero_code(3, 0), zero_code(2, 2), zero_code(3, 2), repetition_code(2, 2),
                 repetition_code(2, 3), whole_code(2, 2), whole_code(2, 12), zero_sum_code(2, 12)]
        for a, b in product(codes, repeat=2):
            unlike = (a.p, a.n, a.k) != (b.p, b.n, b.k)
            self.assertIs(takes_pair(a, b, ("unlike", (), ())), unlike)
            if unlike:
                others = [("unlike", [], ()), ("unlike", (), []), ("unlike", ((),), ()), ("unlike", (), (0,)),
                          ("unlike", (), None), ("unlike", 0, ()), ("unlike", "", ""), ["unlike", (), ()],
                          ("unlike", ()), ("unlike", (), (), ()), ("unlike", False, False)]
                if max(a.size(), b.size()) < 10:
                    others += [("unlike", levels(a), levels(b))] if a.k + b.k > 0 else []
                self.assert_refuses(lambda paper: takes_pair(a, b, paper), others)

    def test_the_dimension_zero(self):
        for p in PRIMES:
            for n in (0, 1, 12):
                code = zero_code(p, n)
                papers = [("unlike", (), ()), ("unlike", (((), ()),), (((), ()),)),
                          ("unlike", ((((),) * n, ((),)),), ())]
                self.assert_refuses(lambda paper: takes_pair(code, code, paper), papers)

    def test_levels_of_small_codes(self):
        shapes = {}
        for p, n, rows, words in small_codes():
            code = Code(p, n, rows)
            if code.k > 0:
                shapes.setdefault((p, n, code.k), []).append((code, plain_levels(words, p, n, code.k)))
        for codes in shapes.values():
            for (a, one), (b, other) in product(codes, repeat=2):
                self.assertIs(takes_pair(a, b, ("unlike", one, other)), one[-1][0] != other[-1][0])
                if a != b:
                    self.assertIs(takes_pair(a, a, ("unlike", one, other)), False)

    def test_changed_levels(self):
        a, b = read_code("2 6: 110000 001100 000011"), read_code("2 6: 111001 000101 000011")
        _, one, other = pair_paper(a, b)
        self.assertIs(takes_pair(a, b, ("unlike", one, other)), True)
        self.assertIs(takes_pair(b, a, ("unlike", other, one)), True)
        self.assertIs(takes_pair(b, a, ("unlike", one, other)), False)
        self.assertIs(takes_pair(a, b, ("unlike", one, one)), False)
        self.assertIs(takes_pair(a, a, ("unlike", one, one)), False)
        for wrong in self.changed(a, one):
            self.assertIs(takes_pair(a, b, ("unlike", wrong, other)), False)
            self.assertIs(takes_pair(b, a, ("unlike", other, wrong)), False)
            self.assertIs(takes_pair(a, b, ("unlike", other, wrong)), False)

    def changed(self, code, found):
        """The levels of a code with a level, a tuple or a mark changed."""
        yield from (found[:-1], found[1:], found + found[-1:], found[::-1], ())
        for at, (mark, tuples) in enumerate(found):
            longer = [*tuples, tuples[0][:-1] + (tuples[0][-1][::-1],), tuples[0] + tuples[0][:1]]
            levels_with = [(mark, tuples[1:]), (mark, tuples[:-1]), (mark, tuples[::-1]), (mark, tuples + tuples[:1]),
                           (mark, tuple(sorted(longer[:-1]))), (mark, tuple(sorted([*tuples, longer[-1]]))), (mark, ()),
                           (mark[::-1], tuples), (mark[1:], tuples), (mark + mark[-1:], tuples), ((), tuples),
                           (tuples, mark), (mark, tuples, ()), (mark,), (tuple(sorted(mark[:-1] + mark[:1])), tuples),
                           (mark, tuple(words[::-1] for words in tuples)) if at > 0 else (mark, tuples[1:])]
            for wrong in levels_with:
                if wrong != (mark, tuples):
                    yield found[:at] + (wrong,) + found[at + 1:]

    def test_wrong_values(self):
        for a, b in ((read_code("2 2: 11"), read_code("2 2: 10")),
                     (read_code("3 3: 102 011"), read_code("3 3: 100 010")),
                     (repetition_code(2, 2), zero_code(2, 2))):
            self.assert_refuses(lambda paper: takes_pair(a, b, paper),
                                [p for p in NO_PAPERS if p != ("unlike", (), ())])
            self.assert_refuses_spoiled(lambda paper: takes_pair(a, b, paper), pair_paper(a, b))

    def test_too_many_tuples(self):
        # 6144 tuples at the level 4: these are the levels, and the codes are not alike.
        few, many = read_code("5 5: 10004 01004 00104 00014"), read_code("5 5: 01000 00100 00010 00001")
        one, other = levels(few), self.plain_unit_levels(many)
        self.assertNotEqual(one[-1][0], other[-1][0])
        self.assertIs(takes_pair(few, many, ("unlike", one, other)), False)
        self.assertIs(takes_pair(many, few, ("unlike", other, one)), False)

    def test_the_most_tuples(self):
        # At most 2880, 1920 and 3072 tuples in a level; none of these codes are alike.
        rows = [(1, 1, 1, 1, 1, 1), (0, 1, 1, 1, 1, 1), (0, 0, 1, 1, 1, 1)]
        most, few, many = [of_parity_checks(5, 6, (row,)) for row in rows]
        with patch.object(forms, "_MOST_TUPLES", 4000):
            told_most, told_few, told_many = levels(most), levels(few), levels(many)
        self.assertEqual([max(len(tuples) for _, tuples in told) for told in (told_most, told_few, told_many)],
                         [2880, 1920, 3072])
        self.assertIs(takes_pair(most, few, ("unlike", told_most, told_few)), True)
        self.assertIs(takes_pair(few, many, ("unlike", told_few, told_many)), False)
        self.assertIs(takes_pair(many, few, ("unlike", told_many, told_few)), False)

    def plain_unit_levels(self, code):
        """The levels of a code of all words that are 0 at the first place."""
        p, n, k = code.p, code.n, code.k
        found = []
        for count in range(1, k + 1):
            multiples = product(range(1, p), repeat=count)
            tuples = sorted(tuple(tuple(a * item for item in row) for a, row in zip(factors, rows))
                            for factors in list(multiples) for rows in permutations(code.rows, count))
            columns = [tuple(int(at == place) for at in range(count)) for place in range(count)]
            found.append((tuple(sorted([(0,) * count] * (n - count) + columns)), tuple(tuples)))
        return tuple(found)

    def test_the_plain_unit_levels(self):
        # What the test of too many tuples calls the levels are the levels, where these are not refused.
        code = read_code("5 4: 0100 0010 0001")
        self.assertEqual(self.plain_unit_levels(code), levels(code))

    def test_larger_codes(self):
        codes = {}
        for p, n, rows, words in sample_codes():
            code = Code(p, n, rows)
            codes.setdefault((p, n, code.k), []).append(code)
        for found in codes.values():
            for a, b in combinations(found, 2):
                try:
                    paper = pair_paper(a, b)
                except Refused:
                    continue
                self.assertIs(takes_pair(a, b, paper), True)


    def test_levels_of_many_kinds(self):
        chance = Random(23)
        unlike = 0
        for p, n, k in ((2, 10, 4), (2, 12, 5), (2, 9, 6), (3, 8, 3), (3, 7, 3), (3, 6, 4), (5, 6, 2), (5, 7, 3),
                        (7, 6, 2), (7, 5, 3), (7, 12, 2)):
            for _ in range(6):
                a, b = (Code(p, n, [tuple(chance.randrange(p) if chance.random() < 0.6 else 0 for _ in range(n))
                                    for _ in range(k)]) for _ in range(2))
                if a.k == b.k:
                    paper = pair_paper(a, b)
                    unlike += paper[0] == "unlike"
                    self.assertIs(takes_pair(a, b, paper), True)
        self.assertGreater(unlike, 20)

    def test_marks_that_differ_in_a_late_line(self):
        # The order of the marks is decided behind the first lines that can still differ.
        for text in ("3 9: 100220210 010121021 001222002", "5 8: 10000403 01003331 00100033"):
            a = read_code(text)
            b = Code(a.p, a.n, a.rows[:2] + ((0,) * (a.n - 1) + (1,),))
            told = plain_levels(set(a.words()), a.p, a.n, 3), plain_levels(set(b.words()), a.p, a.n, 3)
            self.assertIs(takes_pair(a, b, ("unlike", *told)), True)
            self.assertIs(takes_pair(b, a, ("unlike", *told[::-1])), True)
            self.assertEqual(pair_paper(a, b), ("unlike", *told))


class Apart(unittest.TestCase):
    def test_no_function_of_the_chapters_three_to_six(self):
        barred = {"weights", "nearest", "monomial", "forms", "maps", "cyclic", "papers"}
        package = Path(checker.__file__).parent
        todo, seen = ["checker"], set()
        while todo:
            name = todo.pop()
            seen.add(name)
            for part in ast.parse((package / f"{name}.py").read_text(encoding="utf-8")).body:
                if isinstance(part, ast.ImportFrom) and part.module.startswith("weightkeepers."):
                    other = part.module.split(".")[1]
                    if other not in seen:
                        todo.append(other)
        self.assertEqual(seen & barred, set())

    def test_arguments_stay_as_they_were(self):
        a, b = read_code("3 3: 102"), read_code("3 3: 011")
        papers = [distance_paper(a), pair_paper(a, b), map_paper(a, ((0, 1, 1),)), nearest_paper(a, (1, 1, 1))]
        before = repr(papers)
        for _ in range(2):
            self.assertIs(takes_distance(a, papers[0]), True)
            self.assertIs(takes_pair(a, b, papers[1]), True)
            self.assertIs(takes_map(a, ((0, 1, 1),), papers[2]), True)
            self.assertIs(takes_nearest(a, (1, 1, 1), papers[3]), True)
        listed = ["alike", [0, 1, 2], [1, 1, 1]]
        self.assertIs(takes_pair(a, b, listed), False)
        self.assertEqual(listed, ["alike", [0, 1, 2], [1, 1, 1]])
        self.assertEqual((repr(papers), str(a), str(b)), (before, "3 3: 102", "3 3: 011"))


if __name__ == "__main__":
    unittest.main()
