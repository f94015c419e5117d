import unittest
from itertools import product
from random import Random

from brute import spoiled
from weightkeepers.build import zero_code
from weightkeepers.code import Code
from weightkeepers.monomial import identity
from weightkeepers.numerals import numeral, read_numeral
from weightkeepers.values import is_letters, same


def deep(depth, last=0):
    """A value in many tuples."""
    for _ in range(depth):
        last = (last,)
    return last


class Same(unittest.TestCase):
    def test_values_of_all_kinds(self):
        values = [0, 1, 2, -1, True, False, None, "", "a", "0", (), [], (0,), (False,), [0], [False], (1, 2), (1, (2,)),
                  (1, [2]), [1, (2,)], (True, (2,)), ((),), [()], ([],), ("a", 1), ("a", True), zero_code(2, 2),
                  zero_code(2, 3), identity(2, 2), (zero_code(2, 2),), 10 ** 50]
        for (i, one), (j, other) in product(enumerate(values), repeat=2):
            self.assertIs(same(one, other), i == j, (one, other))

    def test_equal_objects(self):
        self.assertIs(same((Code(2, 2, ((1, 1),)), 1), (Code(2, 2, ((1, 1), (1, 1))), 1)), True)
        self.assertIs(same("ab" * 3, "ababab"), True)

    def test_spoiled_values(self):
        for value in ((1, (0, 2), "ab"), ("nearest", 1, ((0, 0), (1, 1))), 1, 0, "a", ()):
            for wrong in spoiled(value):
                self.assertIs(same(value, wrong), type(value) is type(wrong) and repr(value) == repr(wrong))

    def test_deep_values(self):
        self.assertIs(same(deep(50000), deep(50000)), True)
        self.assertIs(same(deep(50000), deep(50000, 1)), False)
        self.assertIs(same(deep(50000), deep(49999)), False)
        self.assertIs(same(deep(50000), 0), False)

    def test_arguments_stay_as_they_were(self):
        one, other = [1, [2, 3]], [1, [2, 3]]
        self.assertIs(same(one, other), True)
        self.assertEqual((one, other), ([1, [2, 3]], [1, [2, 3]]))


class Letters(unittest.TestCase):
    def test_strings(self):
        for text, expected in (("", False), ("a", True), ("abcz", True), ("abcde", False), ("Ab", False), ("a1", False),
                               ("a b", False), (" a", False), ("a\n", False), ("\u00e4", False), ("\uff41", False),
                               ("a-", False), ("_", False), ("zzzz", True), ("`", False), ("{", False)):
            self.assertIs(is_letters(text, 4), expected, text)

    def test_other_values(self):
        for value in (None, True, 1, 0, (), [], ("a",), ["a"], zero_code(2, 1)):
            self.assertIs(is_letters(value, 4), False)


class Numerals(unittest.TestCase):
    def test_small_numbers(self):
        for number in range(-1100, 1100):
            self.assertEqual(numeral(number), str(number))
            self.assertEqual(read_numeral(str(abs(number))), abs(number))

    def test_around_the_blocks(self):
        for digits in (511, 512, 513, 1023, 1024, 1025, 1536, 2047, 2048, 2049, 4000):
            for number in (10 ** digits, 10 ** digits - 1, 10 ** digits + 1, 7 * 10 ** (digits - 3) + 3):
                self.assertEqual(numeral(number), str(number))
                self.assertEqual(numeral(-number), "-" + str(number))
                self.assertEqual(read_numeral(str(number)), number)

    def test_more_digits_than_python_takes(self):
        chance = Random(17)
        for digits in (4299, 4300, 4301, 9000, 30001):
            text = "7" + "".join(chance.choice("0123456789") for _ in range(digits - 1))
            self.assertEqual(numeral(read_numeral(text)), text)
        self.assertEqual(numeral(10 ** 20000), "1" + "0" * 20000)
        self.assertEqual(read_numeral("1" + "0" * 20000), 10 ** 20000)
        self.assertEqual(read_numeral("9" * 20000), 10 ** 20000 - 1)


if __name__ == "__main__":
    unittest.main()
