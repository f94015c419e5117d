import re
import unittest

from brute import ODD_VALUES, spoiled
from weightkeepers.build import zero_code
from weightkeepers.code import read_code
from weightkeepers.console import Console
from weightkeepers.errors import Malformed, NoText
from weightkeepers.log import first_wrong, read_data, read_log, write_data, write_log
from weightkeepers.monomial import identity
from weightkeepers.papers import pair_paper
from weightkeepers.replies import Reply, reply_to

# For some plain data the written form.
FORMS = [
    (0, "0"), (7, "7"), (-7, "-7"), (10, "10"), (10 ** 30, "1" + "0" * 30), (-10 ** 30, "-1" + "0" * 30), ("a", "a"),
    ("z", "z"), ("abcdefghijkl", "abcdefghijkl"), ((), "()"), ((1,), "(1)"), ((1, -2, "ab"), "(1 -2 ab)"),
    (((),), "(())"), (((), ()), "(() ())"), ((1, (2, (3, ())), "a", ("b",)), "(1 (2 (3 ())) a (b))"),
    (("distance", 2, (0, 1, 0, 1)), "(distance 2 (0 1 0 1))"),
]

# These of the odd values are plain data.
PLAIN = ("'abc'", "()", "((),)", "((0,),)")

NO_DATA = [value for value in ODD_VALUES if repr(value) not in PLAIN] + [
    "A", "a1", "a b", "abcdefghijklm", " a", "a ", "-", "a\n", "\u00e4", [1], (1, [2]), (True,), (1, False), (1, None),
    (1, ("",)), ((1, "A"),), zero_code(2, 2), (zero_code(2, 2),), identity(2, 2), NoText(0), Reply("a"),
    (1, Reply("a")),
]

NO_FORMS = [
    "", " ", "00", "01", "-0", "-00", "-01", "+1", "--1", "- 1", "1-", "1.0", "1e3", "1_0", "0x1", "1 ", " 1", "1 2",
    "a b", "(", ")", ")(", "((", "))", "(()", "())", "( )", "( 1)", "(1 )", "(1  2)", " (1)", "(1) ", "(1)(2)",
    "(1) (2)", "(1(2))", "((1)2)", "(1 (2)3)", "()()", "() ()", "(a,b)", "[1]", "A", "aB", "a1", "1a", "abcdefghijklm",
    "(abcdefghijklm)", "(A)", "(01)", "(-0)", "(1\n2)", "1\n", "\n", "(1\t2)", "\u0661", "\u00b2", "\uff11", "\u00e4",
    "True", "None", "(1,)", "'a'", "(", "-", "(-)", "( () )", "(() )", "( ())", "a(", "(a", "a)", "()a", "a()", "1()",
    "()1", "(1 2", "1 2)", "\u00a01", "1\u00a0", "(1\u00a02)",
]


def nested(depth, last=None):
    """Tuples in one another, as many as told."""
    data = () if last is None else (last,)
    for _ in range(depth - 1):
        data = (data,)
    return data


class Data(unittest.TestCase):
    def test_told_forms(self):
        for data, text in FORMS:
            self.assertEqual(write_data(data), text)
            found = read_data(text)
            self.assertEqual(found, data)
            self.assertIs(type(found), type(data))

    def test_all_small_data(self):
        layer = [0, -1, 12, "a", "bc", ()]
        for _ in range(2):
            layer = layer[:6] + [(one,) for one in layer] + [(one, other) for one in layer[:8] for other in layer[-9:]]
        forms = set()
        for data in layer:
            text = write_data(data)
            forms.add(text)
            self.assertEqual(repr(read_data(text)), repr(data))
        self.assertEqual(len(forms), len({repr(data) for data in layer}))

    def test_depth(self):
        for last in (None, 5, "a"):
            for depth in (1, 19, 20):
                data = nested(depth, last)
                inner = "" if last is None else str(last)
                self.assertEqual(write_data(data), "(" * depth + inner + ")" * depth)
                self.assertEqual(read_data("(" * depth + inner + ")" * depth), data)
            for depth in (21, 22, 100, 50000):
                inner = "" if last is None else str(last)
                with self.assertRaises(Malformed):
                    write_data(nested(depth, last))
                with self.assertRaises(Malformed):
                    write_data((1, nested(depth - 1, last), 2))
                self.assert_no_form("(" * depth + inner + ")" * depth)
        self.assertEqual(write_data((nested(19), 1)), "(" + "(" * 19 + ")" * 19 + " 1)")

    def test_wide_data(self):
        data = tuple(range(-1000, 1000)) + (("ab",) * 1000,)
        self.assertEqual(read_data(write_data(data)), data)

    def test_integers_of_any_size(self):
        for digits in (600, 4300, 4301, 20000):
            text = "7" * digits
            number = (10 ** digits - 1) // 9 * 7
            self.assertEqual(write_data(number), text)
            self.assertEqual(write_data((-number, 1)), f"(-{text} 1)")
            self.assertEqual(read_data(text), number)
            self.assertEqual(read_data(f"(a -{text})"), ("a", -number))
            self.assert_no_form("0" + text)
            self.assert_no_form(text + "a")

    def test_no_data(self):
        for value in NO_DATA:
            with self.assertRaises(Malformed):
                write_data(value)

    def assert_no_form(self, value):
        with self.assertRaises(NoText) as caught:
            read_data(value)
        self.assertEqual(caught.exception.at, 0)

    def test_no_forms(self):
        for text in NO_FORMS:
            self.assert_no_form(text)
        odd = [value for value in ODD_VALUES if not isinstance(value, str)]
        for value in odd + [0, 5, -1, ("1",), ["1"], ("a",), zero_code(2, 2), NoText(0)]:
            self.assert_no_form(value)

    def test_all_short_texts(self):
        texts = [""]
        for text in texts:
            texts += [text + sign for sign in "(0 )a-1" if len(text) < 5]
        expected = {text for text in texts if re.fullmatch("0|-?1[01]*|a+", text)}
        # Nothing longer than three signs stands in parentheses: at most two data of one sign.
        for _ in range(2):
            inner = {""} | expected | {f"{one} {other}" for one in "01a" for other in "01a"}
            expected |= {f"({text})" for text in inner if len(text) <= 3}
        found = set()
        for text in texts:
            try:
                data = read_data(text)
            except NoText as error:
                self.assertEqual(error.at, 0)
            else:
                found.add(text)
                self.assertEqual(write_data(data), text)
        self.assertEqual(found, expected)
        self.assertEqual(len(texts), sum(7 ** length for length in range(6)))

    def test_long_texts(self):
        for text in ("(" * 10 ** 6, ")" * 10 ** 6, " " * 10 ** 6, "a" * 10 ** 6, "()" * 10 ** 5, "0" * 10 ** 6,
                     "-" * 10 ** 6, "(" * 20 + "1 " * 10 ** 5 + ")" * 20, "(" + "()" * 10 ** 5 + ")"):
            self.assert_no_form(text)
        self.assertEqual(read_data("(" + " ".join(["()"] * 10 ** 5) + ")"), ((),) * 10 ** 5)


def entries_of(*lines):
    """The entries of a console."""
    console = Console()
    for line in lines:
        console.enter(line)
    return list(console)


LINES = ("let a = 2 4: 1010 0101", "# a remark", "let b = 2 4: 1001 0100", "alike a b", "distance b", "nearest a 1000",
         "", "dual a a", "dual c x", "weights a", "syndrome a 1111", "no line", "distance a", "alike a a",
         "let a = 3 1:", "show a", "distance a", "group b", "radius b", "cyclic b", "let b = 2 4: 1000", "distance b")


class Logs(unittest.TestCase):
    def test_told(self):
        entries = [("show a", Reply("code", "2 2: 11", ())), ("", Reply("done")),
                   ("distance a", Reply("number", "2", ("distance", 2, (1, 1))))]
        text = ("> show a\n= code 2 2: 11\n# ()\n" "> \n= done \n# ()\n"
                "> distance a\n= number 2\n# (distance 2 (1 1))\n")
        self.assertEqual(write_log(entries), text)
        self.assertEqual(read_log(text), entries)
        self.assertEqual(entries[1], ("", Reply("done")))

    def test_no_entries(self):
        self.assertEqual(write_log([]), "")
        self.assertEqual(read_log(""), [])

    def test_what_is_written_is_read_back(self):
        entries = entries_of(*LINES)
        found = read_log(write_log(entries))
        self.assertIs(type(found), list)
        self.assertEqual(found, entries)
        self.assertEqual(write_log(found), write_log(entries))
        self.assertTrue(all(type(entry) is tuple and type(entry[1]) is Reply for entry in found))

    def test_strings_and_data_of_all_kinds(self):
        for line in ("", " ", "> ", "= a b", "# ()", "\t\r", "\u00e4\u03b1\u4e2d", "a" * 5000, "\x00",
                     "\x0b\x0c\x1c\x85\u2028"):
            for data in ((), (1,), nested(20), ("a", -5, (10 ** 5000,)), nested(20, 3)):
                entries = [(line, Reply("abcdefghijkl", line, data)), (line, Reply("a", "  " + line + "  ", data))]
                self.assertEqual(read_log(write_log(entries)), entries)

    def test_no_entries_to_write(self):
        good = ("show a", Reply("code", "2 2: 11", ()))
        wrong = [*ODD_VALUES, 0, list(good), good[:1], good + ((),), (good[1], good[0]), ("a\nb", good[1]),
                 ("\n", good[1]), (None, good[1]), (1, good[1]), (("a",), good[1]), ("a", None),
                 ("a", ("code", "", ())), ("a", "code"), ("a", [good[1]]), good[1], "show a", (good,), zero_code(2, 2),
                 ("a", zero_code(2, 2)), ("a", Reply)]
        for kind in ("", "A", "a b", "abcdefghijklm", "a1", "a\n", None, 1, True, ("a",), ["a"], "\u00e4"):
            wrong.append(("a", Reply(kind, "", ())))
        for text in ("\n", "a\n", "a\nb", None, 1, True, ("a",), ["a"], zero_code(2, 2)):
            wrong.append(("a", Reply("a", text, ())))
        for data in (None, 1, "a", True, [], [1], nested(21), nested(22), (True,), (None,), ("A",), ("",), ([],),
                     (1, ("a b",)), (zero_code(2, 2),), nested(50000), (Reply("a"),), zero_code(2, 2)):
            wrong.append(("a", Reply("a", "", data)))
        for value in wrong:
            for entries in ([value], [good, value], [value, good]):
                with self.assertRaises(Malformed):
                    write_log(entries)
        self.assertEqual(write_log([good]), "> show a\n= code 2 2: 11\n# ()\n")

    def assert_no_log(self, value, at):
        with self.assertRaises(NoText) as caught:
            read_log(value)
        self.assertEqual(caught.exception.at, at, value)

    def test_no_strings(self):
        odd = [value for value in ODD_VALUES if not isinstance(value, str)]
        for value in odd + [0, 5, ["> a\n"], ("",), zero_code(2, 2)]:
            self.assert_no_log(value, 0)

    def test_wrong_lines(self):
        rows = ["> show a", "= code 2 2: 11", "# ()"] * 3
        wrong = (
            ("", ">", "show a", ">show a", " > show a", "= show a", "# ()", ">> a", "\t> a"),
            ("", "=", "= ", "= code", "=code 2", "= Code 2", "=  code 2", "= code2 2", "= abcdefghijklm 2", "> a",
             "# ()", "= c\u00e4 2", "== code 2", " = code 2", "= - 2", "= code\t2", "code 2"),
            ("", "#", "# ", "#()", "# 5", "# a", "# ( )", "# () ", "#  ()", "# (01)", "# () ()", "# (A)", "> a",
             "= a b", "## ()", "# (True)", "# " + "(" * 21 + ")" * 21, "# (", "()", "# -0", "# (1  2)"),
        )
        for at in range(9):
            for row in wrong[at % 3]:
                self.assert_no_log("\n".join(rows[:at] + [row] + rows[at + 1:]) + "\n", at)
                # The first wrong line is told, though the text ends within an entry, or others are wrong, too.
                self.assert_no_log("\n".join(rows[:at] + [row]) + "\n", at)
                self.assert_no_log("\n".join(rows[:at] + [row] + ["?"] * 5), at)

    def test_texts_that_end_too_soon(self):
        text = "> show a\n= code 2 2: 11\n# ()\n" * 3
        for end in range(len(text)):
            head = text[:end]
            count = head.count("\n")
            if head.endswith("\n") and count % 3 == 0 or head == "":
                self.assertEqual(len(read_log(head)), count // 3)
            else:
                self.assert_no_log(head, count)
        self.assert_no_log("\n", 0)
        self.assert_no_log(text + "\n", 9)
        self.assert_no_log(text + " ", 9)
        self.assert_no_log("> a", 0)
        self.assert_no_log("?", 0)
        self.assert_no_log("> a\n= b", 1)
        self.assert_no_log("> a\n?", 1)

    def test_only_line_feeds_end_lines(self):
        self.assert_no_log("> show a\r= code 2\r# ()\r", 0)
        self.assertEqual(read_log("> a\r\n= code 2\r\n# ()\n"), [("a\r", Reply("code", "2\r", ()))])
        self.assert_no_log("> a\n= code 2\n# ()\r\n", 2)


class FirstWrong(unittest.TestCase):
    def test_entries_of_a_console(self):
        entries = entries_of(*LINES)
        self.assertEqual(first_wrong(entries), -1)
        self.assertEqual(first_wrong([]), -1)
        for end in range(len(entries)):
            self.assertEqual(first_wrong(entries[:end]), -1)
        self.assertEqual(first_wrong(read_log(write_log(entries))), -1)

    def test_changed_entries(self):
        entries = entries_of(*LINES)
        for at, (line, reply) in enumerate(entries):
            wrong = [Reply(kind, reply.text, reply.data) for kind in spoiled(reply.kind)]
            wrong += [Reply(reply.kind, text, reply.data) for text in spoiled(reply.text) if text != reply.text]
            wrong += [Reply(reply.kind, reply.text, data) for data in list(spoiled(reply.data))[:40]
                      if repr(data) != repr(reply.data)]
            for found in wrong:
                self.assertEqual(first_wrong(entries[:at] + [(line, found)] + entries[at + 1:]), at)

    def test_items_of_any_kind(self):
        entries = entries_of("let a = 2 2: 11", "show a")
        for value in (*ODD_VALUES, 0, "show a", list(entries[1]), entries[1][1], entries[1][:1], entries[1] + ((),),
                      ("show a", None), ("show a", "code"), (None, entries[1][1]), zero_code(2, 2), NoText(0),
                      [entries[1]]):
            for at in range(3):
                self.assertEqual(first_wrong(entries[:at] + [value] + entries[at:]), at)
        self.assertEqual(first_wrong([(None, Reply("error", "text")), (5, Reply("error", "text"))]), -1)
        self.assertEqual(first_wrong([((), Reply("error", "text")), (5, Reply("done"))]), 1)

    def test_definitions_that_follow_one_another(self):
        first, second = Reply("code", "2 2: 11"), Reply("code", "3 1:")
        lines = [("let a = 2 2: 11", first), ("show a", first), ("let a = 3 1:", second), ("show a", second)]
        self.assertEqual(first_wrong(lines), -1)
        self.assertEqual(first_wrong(lines[1:]), 0)
        self.assertEqual(first_wrong(lines[:3] + lines[1:2]), 3)
        self.assertEqual(first_wrong(lines[2:] + lines[:2]), -1)
        self.assertEqual(first_wrong(lines[:2] + lines[3:]), 2)
        # A line with an error defines nothing, and leaves what was defined.
        error = ("dual a b", Reply("error", "refused name"))
        self.assertEqual(first_wrong(lines[:2] + [error] + lines[1:2]), -1)
        chain = [("let a = 2 2: 11", first), ("dual b a", first), ("direct a a b", Reply("code", "2 4: 1100 0011")),
                 ("show a", Reply("code", "2 4: 1100 0011")), ("show b", first)]
        self.assertEqual(first_wrong(chain), -1)
        self.assertEqual(first_wrong(chain[1:]), 0)
        self.assertEqual(first_wrong(chain[:1] + chain[2:]), 1)

    def test_other_papers(self):
        names = {"a": read_code("3 2: 11"), "b": read_code("3 2: 12")}
        lines = [(f"let {name} = {code}", Reply("code", str(code))) for name, code in names.items()]
        told = reply_to(names, "alike a b")
        self.assertEqual(told.data, pair_paper(names["a"], names["b"]))
        papers = [("alike", (0, 1), (1, 2)), ("alike", (0, 1), (2, 1)), ("alike", (1, 0), (1, 2)),
                  ("alike", (1, 0), (2, 1))]
        self.assertIn(told.data, papers)
        for paper in papers:
            self.assertEqual(first_wrong(lines + [("alike a b", Reply("alike", "yes", paper))]), -1)
        self.assertEqual(first_wrong(lines + [("alike a b", Reply("alike", "yes", ("alike", (0, 1), (1, 1))))]), 2)

    def test_arguments_stay_as_they_were(self):
        entries = entries_of(*LINES)
        before = list(entries)
        first_wrong(entries)
        write_log(entries)
        self.assertEqual(entries, before)
        listed = [("a", [1])]
        first_wrong(listed)
        self.assertEqual(listed, [("a", [1])])


if __name__ == "__main__":
    unittest.main()
