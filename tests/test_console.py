import unittest

from weightkeepers.code import Code, read_code
from weightkeepers.console import Console
from weightkeepers.errors import Refused
from weightkeepers.log import first_wrong, read_log, write_log
from weightkeepers.replies import Reply, reply_to


class Consoles(unittest.TestCase):
    def assert_full(self, console, line):
        with self.assertRaises(Refused) as caught:
            console.enter(line)
        self.assertEqual(caught.exception.reason, "lines")

    def test_examples(self):
        console = Console()
        self.assertEqual(console.enter("let a = 2 3: 101 011").text, "2 3: 101 011")
        self.assertEqual(console.enter("nearest a 100").text, "000 101 110")

    def test_a_new_console(self):
        console = Console()
        self.assertEqual((len(console), list(console), console.names(), console.log()), (0, [], {}, ""))

    def test_entries(self):
        console = Console()
        lines = ["let a = 2 3: 101 011", "", "dual b a", "show b", "show c", "no line", "distance a", "alike a b",
                 "  weights a "]
        replies = [console.enter(line) for line in lines]
        self.assertEqual(len(console), len(lines))
        self.assertEqual(list(console), list(zip(lines, replies)))
        self.assertTrue(all(type(entry) is tuple and type(entry[1]) is Reply for entry in console))
        self.assertEqual([reply.kind for reply in replies],
                         ["code", "done", "code", "code", "error", "error", "number", "alike", "weights"])
        self.assertEqual(first_wrong(list(console)), -1)

    def test_replies_are_those_of_reply_to(self):
        console = Console()
        names = {}
        for line in ("let a = 3 3: 102 012", "extended b a", "form c b", "weights c", "dual a a", "weights a",
                     "sum a a b"):
            self.assertEqual(console.enter(line), reply_to(names, line))
            names = console.names()

    def test_names(self):
        console = Console()
        console.enter("let a = 2 3: 101 011")
        console.enter("dual b a")
        names = console.names()
        self.assertIs(type(names), dict)
        self.assertEqual(names, {"a": read_code("2 3: 101 011"), "b": read_code("2 3: 111")})
        self.assertTrue(all(type(code) is Code for code in names.values()))
        names["c"] = names.pop("a")
        self.assertEqual(sorted(console.names()), ["a", "b"])
        self.assertEqual(console.enter("show c"), Reply("error", "refused name"))
        self.assertEqual(console.enter("show a").text, "2 3: 101 011")

    def test_definitions_are_replaced(self):
        console = Console()
        for line, text in (("let a = 2 3: 101 011", "2 3: 101 011"), ("dual a a", "2 3: 111"), ("let a = 7 1:", "7 1:"),
                           ("extended a a", "7 2:"), ("direct a a a", "7 4:")):
            self.assertEqual(console.enter(line).text, text)
            self.assertEqual({name: str(code) for name, code in console.names().items()}, {"a": text})
            self.assertEqual(console.enter("show a").text, text)

    def test_errors_define_nothing(self):
        console = Console()
        console.enter("let a = 2 3: 101 011")
        for line in ("dual a b", "let a = 2 3: 1", "sum a a b", "punctured a a 3", "let b =", "shortened b a 9",
                     "show b", "# let b = 2 1:", "weights a", "group a"):
            console.enter(line)
            self.assertEqual(console.names(), {"a": read_code("2 3: 101 011")})
        self.assertEqual(len(console), 11)

    def test_the_most_lines(self):
        for most in (0, 1, 3):
            console = Console(most=most)
            for count in range(most):
                console.enter("let a = 2 1: 1" if count == 0 else "no line")
                self.assertEqual(len(console), count + 1)
            before = list(console), console.names(), console.log()
            for line in ("let b = 2 1: 1", "let a = 2 2:", "show a", "", "no line"):
                self.assert_full(console, line)
                self.assertEqual((list(console), console.names(), console.log()), before)
            self.assertEqual(len(console), most)

    def test_three_hundred_lines_unless_told_otherwise(self):
        console = Console()
        for count in range(300):
            console.enter("")
        self.assertEqual(len(console), 300)
        self.assert_full(console, "")
        self.assertEqual(len(console), 300)
        larger = Console(most=301)
        for count in range(301):
            larger.enter("#")
        self.assert_full(larger, "#")

    def test_most_is_told_by_keyword(self):
        with self.assertRaises(TypeError):
            Console(5)

    def test_the_log(self):
        console = Console()
        for line in ("let a = 2 2: 11", "nearest a 01", "show b"):
            console.enter(line)
        self.assertEqual(console.log(), "> let a = 2 2: 11\n= code 2 2: 11\n# ()\n"
                                        "> nearest a 01\n= words 00 11\n# (nearest 1 ((0 0) (1 1)))\n"
                                        "> show b\n= error refused name\n# ()\n")
        self.assertEqual(console.log(), write_log(list(console)))
        self.assertEqual(read_log(console.log()), list(console))
        self.assertEqual(first_wrong(read_log(console.log())), -1)

    def test_the_log_of_strange_lines(self):
        console = Console()
        for line in ("\t", "\r", "\u00e4", "> a", "= a", "# ()", "x" * 3000, "\x00\x85\u2028"):
            console.enter(line)
        self.assertEqual(read_log(console.log()), list(console))
        self.assertEqual(first_wrong(list(console)), -1)

    def test_papers_of_unlike_codes_are_read_back(self):
        console = Console()
        for line in ("let a = 2 6: 110000 001100 000011", "let b = 2 6: 100100 010100 001100" , "alike a b",
                     "alike b a"):
            console.enter(line)
        self.assertEqual(console.enter("alike a b").text, "no")
        self.assertEqual(read_log(console.log()), list(console))

    def test_consoles_are_apart(self):
        one, other = Console(), Console()
        one.enter("let a = 2 2: 11")
        self.assertEqual((len(other), other.names(), list(other)), (0, {}, []))
        self.assertEqual(other.enter("show a"), Reply("error", "refused name"))

    def test_iterating_twice(self):
        console = Console()
        console.enter("let a = 2 2: 11")
        console.enter("show a")
        self.assertEqual(list(console), list(console))
        self.assertEqual([line for line, _ in console], ["let a = 2 2: 11", "show a"])


if __name__ == "__main__":
    unittest.main()
