"""Plain data and logs: their written forms, and where a log is wrong."""

from weightkeepers.errors import Malformed, NoText
from weightkeepers.numerals import numeral, read_numeral
from weightkeepers.replies import Reply, defined, is_right
from weightkeepers.values import is_letters
from weightkeepers.whole import is_integer

_DEEPEST = 20
_LONGEST_LABEL = 12


def _is_label(value):
    """Return True for a string of 1 to 12 small letters, for every value."""
    return is_letters(value, _LONGEST_LABEL)


def _is_plain(value):
    """Return True for plain data, for every value."""
    # Without recursion, since values may be nested to any depth.
    left = [(value, 0)]
    while left:
        data, depth = left.pop()
        if isinstance(data, tuple):
            if depth == _DEEPEST:
                return False
            left.extend([(item, depth + 1) for item in data])
        elif not is_integer(data) and not _is_label(data):
            return False
    return True


def write_data(data):
    """Return the written form of plain data; Malformed for every other value."""
    if not _is_plain(data):
        raise Malformed("the data")
    return _written_data(data)


def _written_data(data):
    """Return the written form of what is known to be plain data."""
    if isinstance(data, tuple):
        return "(" + " ".join([_written_data(item) for item in data]) + ")"
    return data if isinstance(data, str) else numeral(data)


def read_data(text):
    """Return the plain data with this written form; NoText(0) for every other value."""
    if not isinstance(text, str):
        raise NoText(0)
    tokens = [token for token in text.replace("(", " ( ").replace(")", " ) ").split(" ") if token != ""]
    # No other spaces than those between the items.
    if " ".join(tokens).replace("( ", "(").replace(" )", ")") != text:
        raise NoText(0)
    return _told_data(tokens)


def _told_data(tokens):
    """Return the plain data that the tokens tell."""
    # The lists of the items of all tuples that are not closed yet, behind that of the data outside of them.
    rows = [[]]
    for token in tokens:
        if token == "(":
            rows.append([])
        elif token == ")":
            closed = tuple(rows.pop())
            if not rows:
                raise NoText(0)
            rows[-1].append(closed)
        else:
            rows[-1].append(_told_item(token))
        if len(rows) > _DEEPEST + 1:
            raise NoText(0)
    if len(rows) != 1 or len(rows[0]) != 1:
        raise NoText(0)
    return rows[0][0]


def _told_item(token):
    """Return the integer or the label that a token tells."""
    if _is_label(token):
        return token
    digits = token.removeprefix("-")
    if not digits.isascii() or not digits.isdigit() or (digits[0] == "0" and token != "0"):
        raise NoText(0)
    return read_numeral(digits) if token == digits else -read_numeral(digits)


def write_log(entries):
    """Return the written form of a list of entries; Malformed if an item is none that can be written."""
    if not all([_can_be_written(entry) for entry in entries]):
        raise Malformed("an entry")
    return "".join([
        f"> {line}\n= {reply.kind} {reply.text}\n# {write_data(reply.data)}\n"
        for line, reply in entries
    ])


def _can_be_written(entry):
    """Return True for a pair of a row and a reply with a label, a row and a tuple of plain data, for every value."""
    if not isinstance(entry, tuple) or len(entry) != 2:
        return False
    line, reply = entry
    if not _is_row(line) or not isinstance(reply, Reply) or not _is_row(reply.text):
        return False
    return _is_label(reply.kind) and isinstance(reply.data, tuple) and _is_plain(reply.data)


def _is_row(value):
    """Return True for a string without a line feed, for every value."""
    return isinstance(value, str) and "\n" not in value


def read_log(text):
    """Return the list of the entries with this written form; NoText for every other value."""
    if not isinstance(text, str):
        raise NoText(0)
    rows = text.split("\n")
    # What stands behind the last line feed is no line of its own.
    rest = rows.pop()
    parts = [_read_row(row, at) for at, row in enumerate(rows)]
    if rest != "" or len(parts) % 3 != 0:
        raise NoText(len(parts))
    return [
        (line, Reply(kind, told, data))
        for line, (kind, told), data in zip(parts[::3], parts[1::3], parts[2::3])
    ]


def _read_row(row, at):
    """Return what the row with the number `at` tells: a line, the kind and the text of a reply, or data."""
    if at % 3 == 0:
        return _behind("> ", row, at)
    if at % 3 == 1:
        kind, space, text = _behind("= ", row, at).partition(" ")
        if not _is_label(kind) or space == "":
            raise NoText(at)
        return kind, text
    try:
        data = read_data(_behind("# ", row, at))
    except NoText:
        raise NoText(at) from None
    if not isinstance(data, tuple):
        raise NoText(at)
    return data


def _behind(sign, row, at):
    """Return what stands behind the sign at the beginning of a row."""
    if not row.startswith(sign):
        raise NoText(at)
    return row.removeprefix(sign)


def first_wrong(entries):
    """Return the index of the first item of a list that is no right entry, or -1."""
    names = {}
    for at, entry in enumerate(entries):
        if not is_right(names, entry):
            return at
        told = defined(names, entry[0])
        if told is not None:
            name, code = told
            names[name] = code
    return -1
