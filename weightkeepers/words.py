"""Words: their weights, their distances and their written forms."""

from weightkeepers.errors import NoText

# The item of a word is the place of its digit here; int() would take digits of other scripts, too.
_DIGITS = "0123456"


def weight(word):
    """Return the number of the items that are not 0."""
    return len([item for item in word if item != 0])


def distance(v, w):
    """Return the number of the places at which two words of one length differ."""
    return len([1 for a, b in zip(v, w) if a != b])


def written(word):
    """Return the written form of a word: its digits, or `-` for the word of the length 0."""
    if len(word) == 0:
        return "-"
    return "".join([str(item) for item in word])


def read_word(text, p):
    """Return the word over `p` with this written form; NoText(0) for every other value."""
    if not isinstance(text, str) or text == "":
        raise NoText(0)
    if text == "-":
        return ()
    items = [_DIGITS.find(sign) for sign in text]
    # A sign that is no digit is found at -1.
    if not all([0 <= item < p for item in items]):
        raise NoText(0)
    return tuple(items)
