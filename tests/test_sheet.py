import unittest

from brute import ODD_VALUES
from weightkeepers.build import zero_code
from weightkeepers.code import Code
from weightkeepers.errors import NoText
from weightkeepers.monomial import identity
from weightkeepers.sheet import read_line

# For each line its command.
COMMANDS = {
    "let a = 2 3: 101 011": ("let", "a", Code(2, 3, ((1, 0, 1), (0, 1, 1)))),
    "dual a b": ("dual", "a", "b"),
    "form ab cd": ("form", "ab", "cd"),
    "extended a a": ("extended", "a", "a"),
    "sum a b c": ("sum", "a", "b", "c"),
    "common a b c": ("common", "a", "b", "c"),
    "direct a b c": ("direct", "a", "b", "c"),
    "plotkin a b c": ("plotkin", "a", "b", "c"),
    "punctured a b 0": ("punctured", "a", "b", 0),
    "shortened a b 99": ("shortened", "a", "b", 99),
    "show a": ("show", "a"),
    "weights a": ("weights", "a"),
    "distance a": ("distance", "a"),
    "alike a b": ("alike", "a", "b"),
    "nearest a 0129": ("nearest", "a", (0, 1, 2, 9)),
    "syndrome a -": ("syndrome", "a", ()),
    "radius a": ("radius", "a"),
    "group a": ("group", "a"),
    "cyclic a": ("cyclic", "a"),
    "": ("empty",),
}


class Lines(unittest.TestCase):
    def assert_command(self, line, expected):
        found = read_line(line)
        self.assertIs(type(found), tuple)
        self.assertEqual(found, expected)
        self.assertEqual([type(item) for item in found], [type(item) for item in expected])

    def assert_no_line(self, *values):
        for value in values:
            with self.assertRaises(NoText) as caught:
                read_line(value)
            self.assertEqual(caught.exception.at, 0)

    def test_all_commands(self):
        for line, expected in COMMANDS.items():
            self.assert_command(line, expected)

    def test_spaces(self):
        for line, expected in COMMANDS.items():
            self.assert_command("  " + line, expected)
            self.assert_command(line + "   ", expected)
            if not line.startswith("let"):
                self.assert_command(line.replace(" ", "   "), expected)

    def test_empty_lines_and_remarks(self):
        for line in ("", " ", " " * 2000, "#", "# dual a b", "##", "#let a = 2", "#" * 2000, "# ~ !", "#\\"):
            self.assert_command(line, ("empty",))
        self.assert_no_line(" #", "  # a", " #dual a b", "dual a b #", "show # a", "empty", "empty a", "let", "#\t",
                            "#\n")

    def test_the_length_of_a_line(self):
        for line in ("show a", "#", "dual a b", ""):
            self.assert_command(line.ljust(2000), COMMANDS.get(line, ("empty",)))
            self.assert_no_line(line.ljust(2001))
        self.assert_no_line("#" * 2001, " " * 2001, "a" * 10 ** 6)
        digits = "0123456789" * 200
        line = "nearest a " + digits[:1990]
        self.assertEqual(len(line), 2000)
        self.assert_command(line, ("nearest", "a", tuple(map(int, digits[:1990]))))
        self.assert_no_line(line + "0")

    def test_names(self):
        for name in ("a", "z", "abcdefgh", "dual", "let", "show", "empty", "zzzzzzzz"):
            self.assert_command(f"show {name}", ("show", name))
            self.assert_command(f"dual {name} x", ("dual", name, "x"))
            self.assert_command(f"sum x {name} y", ("sum", "x", name, "y"))
            self.assert_command(f"nearest {name} 1", ("nearest", name, (1,)))
            self.assert_command(f"let {name} = 2 1: 1", ("let", name, Code(2, 1, ((1,),))))
        for name in ("", "abcdefghi", "A", "aB", "a1", "1", "a-b", "-", "a_b", "_", "a.", "=", "#", "\u00e4", "\u03b1"):
            self.assert_no_line(f"show {name}", f"dual {name} x", f"dual x {name}", f"sum x {name} y",
                                f"sum x y {name}", f"nearest {name} 1", f"punctured {name} x 1",
                                f"punctured x {name} 1", f"let {name} = 2 1: 1", f"group {name}", f"alike a {name}")

    def test_places(self):
        for place in range(100):
            self.assert_command(f"punctured a b {place}", ("punctured", "a", "b", place))
            self.assert_command(f"shortened a b {place}", ("shortened", "a", "b", place))
        for place in ("100", "00", "01", "007", "-1", "+1", "-0", "1.0", "1e1", "a", "0x1", "1_0", "", "-", "999999",
                      "10 1", "9" * 500, "=", "\u0661", "\u00b2", "\uff11"):
            self.assert_no_line(f"punctured a b {place}", f"shortened a b {place}")

    def test_digits(self):
        for digits in ("0", "1", "9", "00", "0123456789", "000000000000000"):
            self.assert_command(f"nearest a {digits}", ("nearest", "a", tuple(map(int, digits))))
            self.assert_command(f"syndrome a {digits}", ("syndrome", "a", tuple(map(int, digits))))
        self.assert_command("nearest a -", ("nearest", "a", ()))
        for digits in ("", "--", "-1", "1-", "0-1", "+1", "a", "1a", "a1", "1 0", "1,0", "(1)", "1.0", "\u0661",
                       "\u00b2"):
            self.assert_no_line(f"nearest a {digits}", f"syndrome a {digits}")

    def test_the_number_of_tokens(self):
        for line in COMMANDS:
            if line != "":
                self.assert_no_line(line + " a", line + " 0", line.split(" ")[0], "x " + line)
            if line != "" and not line.startswith("let"):
                self.assert_no_line(line.rpartition(" ")[0])
        self.assert_no_line("a", "foo a", "show a b", "alike a", "nearest a", "nearest 01", "punctured a 0", "dual a",
                            "dual a b c", "sum a b", "sum a b c d", "radius", "cyclic", "cyclic a b")

    def test_words_of_the_table(self):
        self.assert_no_line("Show a", "SHOW a", "sho a", "shows a", "told a", "code a", "new a", "empty", "place a",
                            "word a")

    def test_definitions(self):
        for text in ("2 0:", "7 12:", "2 3: 101 011", "3 2: 12", "2 4: 1010 0101", "5 1: 1"):
            code = Code(int(text[0]), int(text[1:].split(":")[0]),
                        [tuple(map(int, row)) for row in text.partition(":")[2].split()])
            for line in (f"let a = {text}", f"let a =  {text}  ", f"  let   a   =   {text}"):
                self.assert_command(line, ("let", "a", code))
                self.assertEqual(str(read_line(line)[2]), text)

    def test_no_definitions(self):
        self.assert_no_line("let", "let a", "let a =", "let a = ", "let = 2 0:", "let a 2 0:", "let a=2 0:",
                            "let a =2 0:", "let a= 2 0:", "let a == 2 0:", "let a = = 2 0:", "let a = 2 0: =",
                            "let a = b", "let a b = 2 0:", "let  = 2 0:", "leta = 2 0:", "Let a = 2 0:", "let a = 2 0",
                            "let a = 2  0:", "let a = 2 1:  1", "let a = 2 1: 2", "let a = 4 1: 1", "let a = 2 13:",
                            "let a = 2 2: 01 10", "let a = 2 2: 11 11", "let a = 2 01: 1", "let a = 2 2: 1",
                            "let a = 7 5: 10000 01000 00100 00010 00001", "= let a 2 0:",
                            "let a = #", "let A = 2 0:", "let a1 = 2 0:", "let a = 2 0:\t", "let a =\t2 0:",
                            "let a = 2,0:")

    def test_characters(self):
        for sign in ("\t", "\n", "\r", "\x00", "\x1f", "\x7f", "\u00a0", "\u00e9", "\u0430", "\u2003", "\u3000",
                     "\U0001f600"):
            self.assert_no_line(sign, "# " + sign, "show a" + sign, sign + "show a", "show" + sign + "a",
                                "show " + sign)
        self.assert_command("#" + "".join(map(chr, range(32, 127))), ("empty",))

    def test_values_of_other_kinds(self):
        values = [value for value in ODD_VALUES if not isinstance(value, str)]
        self.assert_no_line(*values, 0, 5, ["show a"], ("show", "a"), ("empty",), zero_code(2, 2), identity(2, 2),
                            NoText(0))


if __name__ == "__main__":
    unittest.main()
