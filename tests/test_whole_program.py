import importlib
import unittest

from test_package import INTERFACE
from weightkeepers.code import Code, read_code
from weightkeepers.console import Console
from weightkeepers.errors import Fault
from weightkeepers.log import first_wrong
from weightkeepers.monomial import Monomial
from weightkeepers.replies import Reply


def arguments():
    """For each function of the interface some tuples of arguments, made anew by each call."""
    a, b, c = read_code("2 4: 1010 0101"), read_code("2 4: 1001 0100"), read_code("3 3: 102 012")
    names = {"a": a, "b": b, "c": c}
    rows = [(2, 1, 0), (1, 1, 1)]
    console = Console()
    for line in ("let a = 2 4: 1010 0101", "dual b a", "alike a b", "nearest a 1000", "distance a"):
        console.enter(line)
    entries = list(console)
    pair = ("unlike", (((0,),), [1, [2]]), [True])
    images = ((1, 1, 0), (0, 2, 1))
    one_code = [(a,), (b,), (c,), (read_code("5 0:"),)]
    two_codes = [(a, b), (b, a), (a, a), (a, c), (c, read_code("3 3: 110 001"))]
    found = {name: one_code for name in (
        "weight_distribution", "minimum_distance", "minimum_words", "is_mds", "is_perfect", "reaches_griesmer",
        "cosets", "covering_radius", "count_decided", "levels", "least_table", "form", "automorphisms", "group_order",
        "is_cyclic", "generator_polynomial", "check_polynomial", "distance_paper", "extended")}
    found.update({name: two_codes for name in (
        "sum_of", "common_part", "direct_sum", "plotkin_sum", "product_code", "alike", "find_map", "all_maps",
        "pair_paper")})
    found.update({name: [(a, (1, 0, 0, 0)), (c, (0, 0, 1)), (c, [0, 0, 1])] for name in (
        "coset_distribution", "coset_leaders", "nearest_words", "distance_to", "nearest_paper")})
    found.update({name: [(3, 2), (2, 12), (7, 0), (4, 4)] for name in (
        "zero_code", "whole_code", "repetition_code", "zero_sum_code", "identity", "unit_polynomial", "factors_of_unit",
        "divisors_of_unit", "all_cyclic")})
    found.update({name: [("reason",)] for name in ("Fault", "Malformed", "Refused")})
    found.update({name: [((1, 2, 0, 4), (2, 3), 5)] for name in ("times", "divided", "common_divisor")})
    found.update({name: [((1, 2, 0), (2, 2, 1), 3)] for name in ("add", "dot")})
    found.update({name: [(rows, 3, 3), (tuple(rows), 3, 3)] for name in ("reduced", "kernel")})
    found.update({name: [(c, 1), (c, 3), (a, True)] for name in ("punctured", "shortened")})
    found.update({name: [(c, images), (c, list(images)), (a, ((1, 0, 1, 0), (0, 1, 1, 0)))] for name in (
        "changed_weight", "extension", "map_paper")})
    found.update({
        "NoText": [(3,)], "is_integer": [(5,), (True,), ([1],)], "inverse": [(3, 7), (14, 7)],
        "binomial": [(5, 2), (5, -1)],
        "power": [(3, 4)], "is_word": [((1, 2), 3, 2), ([1, 2], 3, 2)], "scaled": [((1, 2, 0), 2, 3)],
        "combine": [(rows, [1, 2], 3, 3)], "solve": [(rows, 3, [1, 2], 3)], "coordinates": [(rows, (0, 2, 1), 3)],
        "weight": [((1, 0),)], "distance": [((1, 0), (1, 1))], "written": [((1, 0),)],
        "read_word": [("10", 2), ([1], 2)],
        "Code": [(3, 3, rows), (3, 3, [[1]])], "read_code": [("2 4: 1010 0101",), ([1],)],
        "of_parity_checks": [(3, 3, rows)], "krawtchouk": [(3, 4, 2, 1)],
        "macwilliams": [(2, 3, (1, 0, 3, 0)), (2, 3, [1, 0, 3, 0])], "binomial_moment": [((1, 0, 3, 0), 1)],
        "ball_size": [(3, 4, 2)], "griesmer_length": [(2, 3, 4)],
        "Monomial": [(5, (2, 0, 1), (1, 4, 3)), (5, [2, 0, 1], (1, 4, 3))], "line": [((0, 3, 1), 5)],
        "mark": [(((1, 2, 0), (2, 2, 1)), 3, 3)], "image": [(c, images, (1, 1, 1)), (c, [images], (1, 1, 1))],
        "shifted": [((1, 2, 0),)], "cyclic_code": [(2, 7, (1, 1, 0, 1)), (2, 7, [1, 1, 0, 1])],
        "takes_distance": [(c, ("distance", 2, (0, 1, 2))), (c, ["distance", [2]])],
        "takes_pair": [(a, b, pair), (a, a, ("alike", (0, 1, 2, 3), (1, 1, 1, 1))), (a, b, list(pair))],
        "takes_map": [(c, images, ("keeps", (0, 1, 2), (1, 1, 1))), (c, images, ["changes", [1]])],
        "takes_nearest": [(c, (1, 0, 0), ("nearest", 1, ((0, 0, 0),))), (c, (1, 0, 0), ["nearest", 1, [[0]]])],
        "read_line": [("punctured a b 3",), ("dual",), (["show a"],)], "Reply": [("a", "b", ([1], 2)), ("a",)],
        "reply_to": [(names, line) for line in ("dual x a", "dual a a", "alike a b", "show no", ["show a"],
                                                "nearest a 1000")],
        "defined": [(names, line) for line in ("dual x a", "let a = 2 2: 11", "show a", ["show a"])],
        "is_right": [(names, entry) for entry in [*entries, list(entries[0]), ["a", [1]], None]],
        "write_data": [((1, ("a", -5)),), ([1, [2]],)], "read_data": [("(1 (a -5))",), ([1],)],
        "write_log": [(entries,), ([*entries, [1, [2]]],)], "read_log": [(console.log(),), (["> a"],)],
        "first_wrong": [(entries,), ([*entries, [1, [2]]],), ([[1]],)], "Console": [()],
    })
    return found


def picture(value):
    """All that a value is made of, with its kinds."""
    if isinstance(value, (list, tuple)):
        return type(value).__name__, [picture(item) for item in value]
    if isinstance(value, dict):
        return "dict", [(picture(key), picture(item)) for key, item in value.items()]
    if isinstance(value, (Code, Monomial, Reply, Console)):
        return type(value).__name__, picture(vars(value))
    if isinstance(value, Fault):
        return type(value).__name__, picture(vars(value)), str(value)
    return repr(value)


def answer(function, given):
    """What the function returns or raises."""
    try:
        return picture(function(*given))
    except Fault as error:
        return "raised", picture(error)


class WholeProgram(unittest.TestCase):
    def test_equal_arguments_give_equal_results_and_are_not_changed(self):
        listed = {member: module for module, members in INTERFACE.items() for member in members}
        first, second = arguments(), arguments()
        self.assertEqual(sorted(first), sorted(listed))
        for member, module in listed.items():
            function = getattr(importlib.import_module(f"weightkeepers.{module}"), member)
            for one, other in zip(first[member], second[member]):
                before = picture(one)
                self.assertEqual(before, picture(other))
                found = answer(function, one)
                self.assertEqual(picture(one), before, member)
                self.assertEqual(answer(function, one), found, member)
                self.assertEqual(answer(function, other), found, member)
                self.assertEqual(picture(other), before, member)

    def test_objects_never_change(self):
        code, other = read_code("3 3: 102 012"), read_code("3 3: 111")
        told, reply = Monomial(3, (1, 2, 0), (1, 2, 1)), Reply("a", "b", (1, (2,)))
        before = picture([code, other, told, reply])
        list(code.words())
        for function in (code.dual, code.checks, code.size, code.__str__, told.undone):
            function()
        code.syndrome((1, 0, 0)), code.holds((1, 0, 0)), code == other
        told.carried((1, 0, 0)), told.code(code), told.after(told), told == code, reply == told
        self.assertEqual(picture([code, other, told, reply]), before)

    def test_a_long_session(self):
        console = Console()
        for line in ("let a = 2 7: 1000110 0100011 0010111 0001101", "dual b a", "cyclic a", "weights a", "weights b",
                     "distance a", "nearest a 1111110", "radius a", "group a", "extended c a", "dual d c", "alike c d",
                     "form e c", "form f d", "common g e f", "sum h e f", "show g", "show h", "punctured i c 7",
                     "alike i a", "shortened j c 0", "alike j b", "plotkin k b b", "alike b b", "direct l b b",
                     "distance l", "syndrome a 0000001"):
            console.enter(line)
        self.assertEqual([line for line, reply in console if reply.kind == "error"],
                         ["plotkin k b b", "direct l b b", "distance l"])
        texts = {line: reply.text for line, reply in console}
        self.assertEqual(texts["cyclic a"], "1101")
        self.assertEqual(texts["weights a"], "1 0 0 7 7 0 0 1")
        self.assertEqual(texts["weights b"], "1 0 0 0 7 0 0 0")
        self.assertEqual((texts["radius a"], texts["group a"], texts["distance a"]), ("1", "168", "3"))
        self.assertEqual((texts["alike c d"], texts["alike i a"], texts["alike j b"]), ("yes", "yes", "yes"))
        self.assertEqual(texts["show g"], texts["show h"])
        self.assertEqual((texts["plotkin k b b"], texts["direct l b b"]), ("refused length", "refused length"))
        self.assertEqual(texts["distance l"], "refused name")
        self.assertEqual(first_wrong(list(console)), -1)


if __name__ == "__main__":
    unittest.main()
