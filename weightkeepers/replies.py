"""Replies to the lines of a worksheet, and which replies are right."""

from weightkeepers.build import direct_sum, extended, plotkin_sum, punctured, shortened
from weightkeepers.checker import takes_distance, takes_nearest, takes_pair
from weightkeepers.code import common_part, sum_of
from weightkeepers.cyclic import generator_polynomial
from weightkeepers.errors import Fault, Malformed, NoText, Refused
from weightkeepers.forms import form
from weightkeepers.linear import is_word
from weightkeepers.maps import group_order
from weightkeepers.nearest import covering_radius
from weightkeepers.papers import distance_paper, nearest_paper, pair_paper
from weightkeepers.sheet import argument_kinds, read_line
from weightkeepers.values import same
from weightkeepers.weights import weight_distribution
from weightkeepers.words import written

# The kinds of the replies whose data are papers.
_PAPER_KINDS = {"distance": "number", "alike": "alike", "nearest": "words"}


class Reply:
    """The reply to a line: its kind, a text and data."""

    def __init__(self, kind, text="", data=()):
        self.kind = kind
        self.text = text
        self.data = data

    def __eq__(self, other):
        return isinstance(other, Reply) and same(_fields(self), _fields(other))


def _fields(reply):
    """Return the tuple of the fields of a reply."""
    return reply.kind, reply.text, reply.data


def reply_to(names, line):
    """Return the reply to a line over these definitions, for every value of `line`."""
    try:
        command = read_line(line)
        return _reply(command, _arguments(names, command))
    except NoText:
        return Reply("error", "text")
    except Malformed:
        return Reply("error", "malformed")
    except Refused as e:
        return Reply("error", f"refused {e.reason}")


def defined(names, line):
    """Return the pair of the name and the code that a line defines, or None, for every value of `line`."""
    try:
        command = read_line(line)
        if not _defines(command):
            return None
        return command[1], _made(command[0], _arguments(names, command))
    except Fault:
        return None


def _defines(command):
    """Return True if a command begins with a new name."""
    return argument_kinds(command)[:1] == ("new",)


def _arguments(names, command):
    """Return the list of what a command works with: the codes in the place of their names, and no new name."""
    arguments = []
    for kind, value in zip(argument_kinds(command), command[1:]):
        if kind == "code":
            if value not in names:
                raise Refused("name")
            arguments.append(names[value])
        elif kind != "new":
            arguments.append(value)
    return arguments


def _made(word, arguments):
    """Return the code that a command makes which begins with this word."""
    first = arguments[0]
    if word == "let":
        return first
    if word == "dual":
        return first.dual()
    if word == "form":
        return form(first)
    if word == "extended":
        return extended(first)
    second = arguments[1]
    if word == "sum":
        return sum_of(first, second)
    if word == "common":
        return common_part(first, second)
    if word == "direct":
        return direct_sum(first, second)
    if word == "plotkin":
        return plotkin_sum(first, second)
    if word == "punctured":
        return punctured(first, second)
    return shortened(first, second)


def _reply(command, arguments):
    """Return the reply to a command."""
    word = command[0]
    if word == "empty":
        return Reply("done")
    if _defines(command):
        return Reply("code", str(_made(word, arguments)))
    if word in _PAPER_KINDS:
        paper = _paper(word, arguments)
        return Reply(_PAPER_KINDS[word], _text_of_paper(paper), paper)
    return _reply_on_code(word, arguments)


def _reply_on_code(word, arguments):
    """Return the reply to a command that makes no code and no paper."""
    code = arguments[0]
    if word == "show":
        return Reply("code", str(code))
    if word == "weights":
        numbers = weight_distribution(code)
        return Reply("weights", " ".join([str(number) for number in numbers]), numbers)
    if word == "syndrome":
        return Reply("syndrome", written(code.syndrome(arguments[1])))
    if word == "radius":
        return Reply("number", str(covering_radius(code)))
    if word == "group":
        return Reply("number", str(group_order(code)))
    # A generator polynomial is not zero: it has its digits as a word has.
    return Reply("polynomial", written(generator_polynomial(code)))


def _paper(word, arguments):
    """Return the paper that a command asks for which begins with this word."""
    if word == "distance":
        return distance_paper(arguments[0])
    if word == "alike":
        return pair_paper(arguments[0], arguments[1])
    return nearest_paper(arguments[0], arguments[1])


def _text_of_paper(paper):
    """Return the text of a reply with this paper."""
    if paper[0] == "distance":
        return str(paper[1])
    if paper[0] == "nearest":
        return " ".join([written(word) for word in paper[2]])
    return "yes" if paper[0] == "alike" else "no"


def is_right(names, entry):
    """Return True if an entry is right over these definitions, for every value of `entry`."""
    if not isinstance(entry, tuple) or len(entry) != 2 or not isinstance(entry[1], Reply):
        return False
    line, reply = entry
    question = _question(names, line)
    if question is None or same(reply.kind, "error"):
        return reply == reply_to(names, line)
    word, arguments = question
    if not same(reply.kind, _PAPER_KINDS[word]) or not _takes(word, arguments, reply.data):
        return False
    return same(reply.text, _text_of_paper(reply.data))


def _question(names, line):
    """Return the first word and the arguments of a line that asks for a paper and can be answered by one, or None."""
    try:
        command = read_line(line)
        arguments = _arguments(names, command)
    except Fault:
        return None
    if command[0] not in _PAPER_KINDS:
        return None
    if command[0] == "nearest" and not is_word(arguments[1], arguments[0].p, arguments[0].n):
        return None
    return command[0], arguments


def _takes(word, arguments, paper):
    """Return True if the checker accepts a paper for a command that begins with this word, for every value of it."""
    if word == "distance":
        return takes_distance(arguments[0], paper)
    if word == "alike":
        return takes_pair(arguments[0], arguments[1], paper)
    return takes_nearest(arguments[0], arguments[1], paper)
