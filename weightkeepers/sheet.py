"""The lines of worksheets, and the commands that they tell."""

from weightkeepers.code import read_code
from weightkeepers.errors import NoText
from weightkeepers.values import is_letters

_LONGEST_LINE = 2000
_LONGEST_NAME = 8

# What stands in a command behind its first item: a new name, the name of a code, a place, a word, a code itself.
_KINDS = {
    "let": ("new", "told"),
    "dual": ("new", "code"),
    "form": ("new", "code"),
    "extended": ("new", "code"),
    "sum": ("new", "code", "code"),
    "common": ("new", "code", "code"),
    "direct": ("new", "code", "code"),
    "plotkin": ("new", "code", "code"),
    "punctured": ("new", "code", "place"),
    "shortened": ("new", "code", "place"),
    "show": ("code",),
    "weights": ("code",),
    "distance": ("code",),
    "alike": ("code", "code"),
    "nearest": ("code", "word"),
    "syndrome": ("code", "word"),
    "radius": ("code",),
    "group": ("code",),
    "cyclic": ("code",),
    "empty": (),
}


def argument_kinds(command):
    """Return the tuple of the kinds of what stands in a command behind its first item."""
    return _KINDS[command[0]]


def read_line(line):
    """Return the command that a line tells; NoText(0) for every other value."""
    if not _is_line(line):
        raise NoText(0)
    tokens = [token for token in line.split(" ") if token != ""]
    if not tokens or line[0] == "#":
        return ("empty",)
    # The line without tokens is the only one that is empty.
    if tokens[0] not in _KINDS or tokens[0] == "empty":
        raise NoText(0)
    if tokens[0] == "let":
        return _definition(line, tokens)
    kinds = _KINDS[tokens[0]]
    if len(tokens) != len(kinds) + 1:
        raise NoText(0)
    return (tokens[0],) + tuple([_argument(kind, token) for kind, token in zip(kinds, tokens[1:])])


def _is_line(value):
    """Return True for a string of at most 2000 characters from the space to `~`, for every value."""
    if not isinstance(value, str) or len(value) > _LONGEST_LINE:
        return False
    return all([" " <= sign <= "~" for sign in value])


def _definition(line, tokens):
    """Return the command of a line that begins with `let`."""
    if len(tokens) < 3 or tokens[2] != "=":
        raise NoText(0)
    _, _, text = line.partition("=")
    return "let", _name(tokens[1]), read_code(text.strip(" "))


def _argument(kind, token):
    """Return what a token of this kind stands for."""
    if kind == "place":
        return _place(token)
    if kind == "word":
        return _digits(token)
    return _name(token)


def _name(token):
    """Return the name that a token is."""
    if not is_letters(token, _LONGEST_NAME):
        raise NoText(0)
    return token


def _place(token):
    """Return the integer from 0 to 99 that a token tells without leading zeros."""
    if not token.isdigit() or len(token) > 2 or str(int(token)) != token:
        raise NoText(0)
    return int(token)


def _digits(token):
    """Return the tuple of the digits of a token."""
    if token == "-":
        return ()
    if not token.isdigit():
        raise NoText(0)
    return tuple([int(sign) for sign in token])
