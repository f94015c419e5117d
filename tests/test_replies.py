import unittest
from itertools import product

from brute import ODD_VALUES, spoiled
from weightkeepers.build import (direct_sum, extended, plotkin_sum, punctured, repetition_code, shortened, whole_code,
                                 zero_code, zero_sum_code)
from weightkeepers.code import Code, common_part, read_code, sum_of
from weightkeepers.errors import NoText
from weightkeepers.forms import form
from weightkeepers.monomial import identity
from weightkeepers.papers import distance_paper, nearest_paper, pair_paper
from weightkeepers.replies import Reply, defined, is_right, reply_to

# The definitions that the tests use: among them codes that functions refuse.
NAMES = {
    "a": read_code("2 4: 1010 0101"),
    "b": read_code("2 4: 1100 0011"),
    "c": read_code("2 4: 1001 0100"),
    "d": read_code("3 3: 102 012"),
    "e": repetition_code(2, 4),
    "zero": zero_code(2, 3),
    "empty": zero_code(5, 0),
    "all": whole_code(2, 12),
    "long": zero_code(3, 12),
    "turned": read_code("2 7: 1000110 0100011 0010111 0001101"),
    "five": read_code("5 5: 10004 01004 00104 00014"),
    "units": read_code("5 5: 01000 00100 00010 00001"),
}

NO_LINES = [value for value in ODD_VALUES if value != ""] + [
    0, 7, "dual", "show a\n", "Show a", "show a b", "nearest a", "let x = 2 2: 2", " #", "x" * 2001, ["show a"],
    ("show a",), zero_code(2, 2), identity(2, 2), NoText(0), Reply("done"),
]


def fields(reply):
    """The fields of a reply."""
    return reply.kind, reply.text, reply.data


class Replies(unittest.TestCase):
    def test_fields(self):
        self.assertEqual(fields(Reply("code", "2 0:", (1, 2))), ("code", "2 0:", (1, 2)))
        self.assertEqual(fields(Reply("done")), ("done", "", ()))
        self.assertEqual(fields(Reply("error", "text")), ("error", "text", ()))
        self.assertEqual(fields(Reply("a", data=(5,))), ("a", "", (5,)))
        self.assertEqual(fields(Reply(kind="a", text="b", data=())), ("a", "b", ()))

    def test_equality(self):
        values = [Reply(kind, text, data) for kind, text, data in
                  product(("a", "b", ""), ("", "a", "2 0:"), ((), (1,), (1, (2,)), ("a",), ((), ())))]
        for (i, one), (j, other) in product(enumerate(values), repeat=2):
            self.assertIs(one == other, i == j)
            self.assertIs(one != other, i != j)
        self.assertIs(Reply("a", "b", (1, ("c", 2))) == Reply("a", "b", (1, ("c", 2))), True)

    def test_equality_with_other_values(self):
        reply = Reply("a", "b", (1,))
        for value in (*ODD_VALUES, 0, ("a", "b", (1,)), ["a", "b", (1,)], zero_code(2, 2), identity(2, 2), NoText(0),
                      Reply):
            self.assertIs(reply == value, False)
            self.assertIs(reply != value, True)
            self.assertIs(value == reply, False)
        for value in ((True,), [1], 1, (1, ()), ("1",), None, ((1,),)):
            self.assertIs(Reply("a", "b", value) == reply, False)


class Answers(unittest.TestCase):
    def assert_reply(self, line, kind, text, data=()):
        before = dict(NAMES)
        found = reply_to(NAMES, line)
        self.assertIs(type(found), Reply)
        self.assertEqual(fields(found), (kind, text, data), line)
        self.assertEqual(NAMES, before)
        self.assertEqual(list(NAMES), list(before))

    def assert_makes(self, line, code):
        """The line defines `x` as this code."""
        self.assert_reply(line, "code", str(code))
        found = defined(NAMES, line)
        self.assertEqual((type(found), len(found)), (tuple, 2))
        self.assertEqual(found, ("x", code))
        self.assertIs(type(found[1]), Code)

    def assert_error(self, line, text):
        self.assert_reply(line, "error", text)
        self.assertIsNone(defined(NAMES, line))

    def test_codes(self):
        a, b, d = NAMES["a"], NAMES["b"], NAMES["d"]
        self.assert_makes("let x = 2 3: 101 011", read_code("2 3: 101 011"))
        self.assert_makes("let x =   2 0:  ", zero_code(2, 0))
        self.assert_makes("dual x a", a.dual())
        self.assert_makes("dual x d", d.dual())
        self.assert_makes("form x a", form(a))
        self.assert_makes("form x d", form(d))
        self.assert_makes("extended x d", extended(d))
        self.assert_makes("sum x a b", sum_of(a, b))
        self.assert_makes("common x a b", common_part(a, b))
        self.assert_makes("direct x a zero", direct_sum(a, NAMES["zero"]))
        self.assert_makes("direct x zero a", direct_sum(NAMES["zero"], a))
        self.assert_makes("plotkin x a e", plotkin_sum(a, NAMES["e"]))
        self.assert_makes("plotkin x e a", plotkin_sum(NAMES["e"], a))
        for at in range(3):
            self.assert_makes(f"punctured x d {at}", punctured(d, at))
            self.assert_makes(f"shortened x d {at}", shortened(d, at))

    def test_codes_told(self):
        self.assert_reply("dual x d", "code", "3 3: 111")
        self.assert_reply("show d", "code", "3 3: 102 012")
        self.assert_reply("show zero", "code", "2 3:")
        self.assert_reply("common x a b", "code", "2 4: 1111")
        self.assert_reply("sum x a b", "code", "2 4: 1001 0101 0011")

    def test_a_name_may_be_defined_again(self):
        self.assertEqual(defined(NAMES, "dual a a"), ("a", NAMES["a"].dual()))
        self.assertEqual(defined(NAMES, "let d = 2 0:"), ("d", zero_code(2, 0)))
        self.assertEqual(defined({}, "let d = 2 0:"), ("d", zero_code(2, 0)))

    def test_numbers_and_words(self):
        self.assert_reply("weights a", "weights", "1 0 2 0 1", (1, 0, 2, 0, 1))
        self.assert_reply("weights empty", "weights", "1", (1,))
        self.assert_reply("weights d", "weights", "1 0 6 2", (1, 0, 6, 2))
        self.assert_reply("distance a", "number", "2", ("distance", 2, (0, 1, 0, 1)))
        self.assert_reply("distance e", "number", "4", ("distance", 4, (1, 1, 1, 1)))
        self.assert_reply("nearest e 0011", "words", "0000 1111", ("nearest", 2, ((0, 0, 0, 0), (1, 1, 1, 1))))
        self.assert_reply("nearest d 100", "words", "000 102 120", nearest_paper(NAMES["d"], (1, 0, 0)))
        self.assert_reply("nearest empty -", "words", "-", ("nearest", 0, ((),)))
        self.assert_reply("syndrome d 100", "syndrome", "1")
        self.assert_reply("syndrome a 1000", "syndrome", "10")
        self.assert_reply("syndrome all 000000000000", "syndrome", "-")
        self.assert_reply("syndrome empty -", "syndrome", "-")
        self.assert_reply("radius e", "number", "2")
        self.assert_reply("radius empty", "number", "0")
        self.assert_reply("group e", "number", "24")
        self.assert_reply("group long", "number", str(479001600 * 4096))
        self.assert_reply("cyclic turned", "polynomial", "1101")
        self.assert_reply("cyclic d", "polynomial", "21")
        self.assert_reply("cyclic zero", "polynomial", "1001")
        self.assert_reply("cyclic all", "polynomial", "1")

    def test_alike(self):
        self.assert_reply("alike a b", "alike", "yes", pair_paper(NAMES["a"], NAMES["b"]))
        self.assert_reply("alike a c", "alike", "no", pair_paper(NAMES["a"], NAMES["c"]))
        self.assert_reply("alike a d", "alike", "no", ("unlike", (), ()))
        self.assert_reply("alike zero zero", "alike", "yes", pair_paper(NAMES["zero"], NAMES["zero"]))
        self.assert_reply("alike all a", "alike", "no", ("unlike", (), ()))

    def test_empty_lines(self):
        for line in ("", "   ", "#", "# dual x a", "#" * 2000):
            self.assert_reply(line, "done", "")
            self.assertIsNone(defined(NAMES, line))

    def test_no_lines(self):
        for line in NO_LINES:
            self.assert_error(line, "text")
        self.assert_error("let x = 2 13:", "text")
        self.assert_error("let x = 7 5: 10000 01000 00100 00010 00001", "text")

    def test_undefined_names(self):
        lines = ["dual x no", "form x no", "extended x no", "sum x no a", "sum x a no", "common x no no",
                 "direct x d no", "plotkin x no d", "punctured x no 0", "shortened x no 99", "show no", "weights no",
                 "distance no", "alike no a", "alike a no", "nearest no 9", "syndrome no -", "radius no", "group no",
                 "cyclic no", "dual no no"]
        # The name comes before what the functions raise.
        lines += ["sum x d no", "direct x all no", "alike units no"]
        for line in lines:
            self.assert_error(line, "refused name")
            self.assertEqual(reply_to({}, line), Reply("error", "refused name"))

    def test_malformed(self):
        for line in ("sum x a d", "sum x a zero", "common x a d", "common x zero a", "direct x a d", "plotkin x a d",
                     "plotkin x a zero", "punctured x a 4", "punctured x a 99", "shortened x a 4",
                     "punctured x empty 0", "shortened x empty 0", "nearest a 101", "nearest a 10100", "nearest a 1012",
                     "nearest a -", "nearest d 103", "nearest empty 0", "syndrome a 101", "syndrome a 9999",
                     "syndrome a -", "syndrome d 300"):
            self.assert_error(line, "malformed")

    def test_refused(self):
        for line, reason in (("dual x long", "large"), ("form x all", "large"), ("form x units", "large"),
                             ("extended x long", "length"), ("extended x all", "length"), ("direct x all a", "length"),
                             ("direct x long d", "length"), ("plotkin x all all", "length"), ("distance zero", "zero"),
                             ("distance empty", "zero"), ("alike all all", "large"), ("alike units five", "large"),
                             ("alike five units", "large"), ("radius long", "large"), ("group all", "large"),
                             ("group units", "large"), ("cyclic b", "cyclic"), ("cyclic empty", "cyclic")):
            self.assert_error(line, f"refused {reason}")
        names = {"a": whole_code(7, 4), "b": zero_sum_code(7, 4), "c": Code(7, 4, ((0, 0, 0, 1),))}
        for line in ("direct x a b", "plotkin x a b"):
            self.assertEqual(reply_to(names, line), Reply("error", "refused large"))
        self.assertEqual(reply_to({"a": Code(2, 12, whole_code(2, 12).rows[:11])}, "sum x a a").kind, "code")
        seven = {"a": Code(7, 8, ((1,) + (0,) * 7, (0, 1) + (0,) * 6, (0, 0, 1) + (0,) * 5)),
                 "b": Code(7, 8, ((0,) * 7 + (1,), (0,) * 6 + (1, 0)))}
        self.assertEqual(reply_to(seven, "sum x a b"), Reply("error", "refused large"))

    def test_what_defines_nothing(self):
        for line in ("show a", "weights a", "distance a", "alike a b", "nearest a 1010", "syndrome a 1010", "radius a",
                     "group a", "cyclic a"):
            self.assertNotEqual(reply_to(NAMES, line).kind, "error")
            self.assertIsNone(defined(NAMES, line))


class Right(unittest.TestCase):
    def assert_right(self, line, reply, expected=True, names=None):
        held = NAMES if names is None else names
        before = dict(held)
        self.assertIs(is_right(held, (line, reply)), expected, (line, fields(reply)))
        self.assertEqual(held, before)

    def assert_exactly(self, line, names=None):
        """The line has one right reply, told by `reply_to`, and no other."""
        reply = reply_to(NAMES if names is None else names, line)
        self.assert_right(line, reply, True, names)
        for kind in spoiled(reply.kind):
            self.assert_right(line, Reply(kind, reply.text, reply.data), False, names)
        for text in spoiled(reply.text):
            self.assert_right(line, Reply(reply.kind, text, reply.data), text == reply.text, names)
        for data in spoiled(reply.data):
            same = isinstance(data, tuple) and repr(data) == repr(reply.data)
            self.assert_right(line, Reply(reply.kind, reply.text, data), same, names)

    def test_lines_without_papers(self):
        for line in ("let x = 2 3: 101 011", "dual x a", "form x a", "extended x d", "sum x a b", "common x a b",
                     "show a", "direct x a zero", "plotkin x a e", "punctured x d 1", "shortened x d 1", "weights a",
                     "weights empty", "syndrome a 1000", "syndrome empty -", "radius e", "group e", "cyclic turned", "",
                     "# dual x a"):
            self.assertNotEqual(reply_to(NAMES, line).kind, "error")
            self.assert_exactly(line)

    def test_lines_with_errors(self):
        for line in ("dual x no", "sum x a d", "punctured x a 9", "dual x long", "extended x long", "cyclic empty",
                     "distance no", "alike a no", "nearest no 1010", "nearest a 101", "nearest a -", "nearest a 2222",
                     "distance zero", "distance empty", *NO_LINES):
            self.assertEqual(reply_to(NAMES, line).kind, "error")
            self.assert_exactly(line)
        for line in ("alike units five", "group units"):
            self.assert_right(line, Reply("error", "refused large"))
            self.assert_right(line, Reply("error", "refused zero"), False)

    def test_integers_in_data(self):
        self.assert_right("weights a", Reply("weights", "1 0 2 0 1", (1, 0, 2, 0, 1)))
        for data in ((True, 0, 2, 0, 1), (1, False, 2, 0, 1), (1, 0, 2, 0, True), [1, 0, 2, 0, 1], (1, 0, 2, 0), ()):
            self.assert_right("weights a", Reply("weights", "1 0 2 0 1", data), False)
        for data in (("distance", 1, (True,)), ("distance", True, (1,)), ("distance", 1, [1]), ["distance", 1, (1,)]):
            self.assert_right("distance a", Reply("number", "1", data), False, {"a": whole_code(2, 1)})
        self.assert_right("distance a", Reply("number", "1", ("distance", 1, (1,))), True, {"a": whole_code(2, 1)})

    def test_all_papers_of_distances(self):
        for word in NAMES["d"].words():
            for d in range(5):
                for text in ("0", "1", "2", "3", "02", " 2", "", 2):
                    reply = Reply("number", text, ("distance", d, word))
                    expected = d == 2 and text == "2" and len([item for item in word if item]) == 2
                    self.assert_right("distance d", reply, expected)
        for kind in ("words", "alike", "code", "error", "", "Number", None, 0, ("number",)):
            self.assert_right("distance d", Reply(kind, "2", distance_paper(NAMES["d"])), False)

    def test_all_papers_of_maps(self):
        a, b = NAMES["a"], NAMES["b"]
        right = 0
        for places in product(range(4), repeat=4):
            paper = ("alike", places, (1, 1, 1, 1))
            expected = sorted(places) == [0, 1, 2, 3] and {places[0], places[2]} in ({0, 1}, {2, 3})
            right += expected
            self.assert_right("alike a b", Reply("alike", "yes", paper), expected)
            self.assert_right("alike a b", Reply("alike", "no", paper), False)
            self.assert_right("alike a b", Reply("number", "yes", paper), False)
        self.assertEqual(right, 8)
        self.assert_right("alike a b", Reply("alike", "no", ("unlike", (), ())), False)
        self.assert_right("alike a c", Reply("alike", "no", pair_paper(a, NAMES["c"])))
        self.assert_right("alike a c", Reply("alike", "yes", pair_paper(a, NAMES["c"])), False)
        self.assert_right("alike a c", Reply("alike", "no", pair_paper(b, NAMES["c"])), False)
        self.assert_right("alike a d", Reply("alike", "no", ("unlike", (), ())))
        self.assert_right("alike a d", Reply("alike", "no", ("unlike", [], ())), False)

    def test_papers_where_the_reply_is_an_error(self):
        # The checker accepts a map between codes with too many tuples; the error that is told is right, too.
        paper = ("alike", identity(5, 5).places, identity(5, 5).multiples)
        self.assert_right("alike units units", Reply("alike", "yes", paper))
        self.assert_right("alike units units", Reply("error", "refused large"))
        self.assert_right("alike units units", Reply("error", "refused many"), False)
        self.assert_right("alike units units", Reply("alike", "no", paper), False)
        self.assert_right("distance zero", Reply("error", "refused zero"))
        self.assert_right("distance zero", Reply("number", "0", ("distance", 0, (0, 0, 0))), False)

    def test_errors_where_the_reply_is_none(self):
        for line in ("distance a", "alike a b", "alike a c", "nearest a 1000"):
            for text in ("text", "malformed", "refused large", "refused zero", "refused name", ""):
                self.assert_right(line, Reply("error", text), False)
        self.assert_right("alike units five", Reply("alike", "no", ("unlike", (), ())), False)

    def test_papers_of_nearest_words(self):
        line = "nearest e 0011"
        paper = nearest_paper(NAMES["e"], (0, 0, 1, 1))
        self.assert_right(line, Reply("words", "0000 1111", paper))
        for text in ("0000", "1111 0000", "0000  1111", "00001111", "", "0000 1111 ", None, ("0000", "1111")):
            self.assert_right(line, Reply("words", text, paper), False)
        for data in spoiled(paper):
            self.assert_right(line, Reply("words", "0000 1111", data), False)
        for kind in spoiled("words"):
            self.assert_right(line, Reply(kind, "0000 1111", paper), False)
        self.assert_right("nearest e 0001", Reply("words", "0000 1111", paper), False)

    def test_papers_for_what_is_no_word(self):
        # These would be nearest words, if only the places that both have were looked at.
        for digits, d, word in (("101", 0, "1010"), ("10100", 0, "1010"), ("10103", 0, "1010"), ("1910", 1, "1010")):
            paper = ("nearest", d, (tuple(map(int, word)),))
            self.assert_right(f"nearest a {digits}", Reply("words", word, paper), False)
            self.assert_right(f"nearest a {digits}", Reply("error", "malformed"))
        words = tuple(NAMES["a"].words())
        self.assert_right("nearest a -", Reply("words", "0000 0101 1010 1111", ("nearest", 0, words)), False)

    def test_spoiled_replies_with_papers(self):
        for line in ("distance a", "alike a b", "alike a c", "alike a d", "nearest a 1000", "nearest empty -"):
            reply = reply_to(NAMES, line)
            self.assert_right(line, reply)
            for data in spoiled(reply.data):
                self.assert_right(line, Reply(reply.kind, reply.text, data), False)
            for text in spoiled(reply.text):
                self.assert_right(line, Reply(reply.kind, text, reply.data), text == reply.text)

    def test_no_entries(self):
        reply = reply_to(NAMES, "show a")
        self.assertIs(is_right(NAMES, ("show a", reply)), True)
        values = [*ODD_VALUES, 0, reply, "show a", ["show a", reply], ("show a",), (reply,), ("show a", reply, ()),
                  (reply, "show a"), ("show a", "2 4: 1010 0101"), ("show a", ("code", "2 4: 1010 0101", ())),
                  ("show a", None), ("show a", [reply]), (("show a", reply),), {"show a": reply},
                  ("show a", zero_code(2, 2)), zero_code(2, 2), ((), ()), ("show a", True), identity(2, 2), NoText(0),
                  ("show a", Reply)]
        for value in values:
            self.assertIs(is_right(NAMES, value), False)
        for line in ("distance a", "alike a b", "nearest a 1000", "weights a", "", "no line"):
            reply = reply_to(NAMES, line)
            for value in (None, True, 0, reply.data, reply.text, fields(reply), [reply], (reply,), zero_code(2, 2),
                          NoText(0)):
                self.assertIs(is_right(NAMES, (line, value)), False)
            self.assertIs(is_right(NAMES, [line, reply]), False)
            self.assertIs(is_right(NAMES, (line, reply, reply)), False)

    def test_values_that_are_no_lines(self):
        for line in NO_LINES:
            self.assert_right(line, Reply("error", "text"))
            self.assert_right(line, Reply("error", "malformed"), False)
            self.assert_right(line, Reply("done"), False)

    def test_deep_data(self):
        data = ()
        for _ in range(50000):
            data = (data,)
        for line in ("distance a", "alike a b", "alike a c", "nearest a 1000", "weights a", "show a", "", "no line"):
            for kind in ("number", "alike", "words", "weights", "code", "done", "error", data):
                self.assert_right(line, Reply(kind, "2", data), False)
                self.assert_right(line, Reply(kind, data, data), False)


if __name__ == "__main__":
    unittest.main()
