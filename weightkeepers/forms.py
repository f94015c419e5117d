"""One form for all codes that monomial maps carry onto one another."""

from weightkeepers.code import Code
from weightkeepers.errors import Refused
from weightkeepers.linear import scaled
from weightkeepers.whole import inverse

_MOST_TUPLES = 3000


def line(column, p):
    """Return the line of a tuple of numbers from 0 to `p - 1`."""
    return scaled(column, _norming(column, p), p)


def _norming(column, p):
    """Return the number that makes the first item other than 0 equal to 1; 1 if there is no such item."""
    for item in column:
        if item != 0:
            return inverse(item, p)
    return 1


def mark(words, n, p):
    """Return the mark of a tuple of words of the length `n`."""
    return tuple(sorted([line(_column(words, at), p) for at in range(n)]))


def _column(words, at):
    """Return the tuple of the items that the words have at a place."""
    return tuple([word[at] for word in words])


def levels(code):
    """Return the tuple of the levels 1 to `k`, each the pair of a mark and the ascending tuple of its tuples."""
    words = list(code.words())
    found = []
    tuples = ((),)
    for _ in range(code.k):
        least, tuples = _next_level(tuples, words, code.n, code.p)
        if len(tuples) > _MOST_TUPLES:
            raise Refused("large")
        found.append((least, tuples))
    return tuple(found)


def _next_level(tuples, words, n, p):
    """Return the level whose tuples are tuples of the level before with one word more."""
    # All multiples of a tuple have one mark: it is enough to extend one of them, and to take the
    # multiples of what is found.
    heads = [held for held in tuples if held == () or line(held[0], p) == held[0]]
    # Many tuples are zero at the same places.
    layers = {places: _layers(words, places) for places in sorted({_zeros(held, n) for held in heads})}
    choices = [(held, _best_words(held, layers[_zeros(held, n)], n, p)) for held in heads]
    marks = [mark(held + (best[0],), n, p) for held, best in choices]
    least = min(marks)
    longer = [
        held + (word,)
        for (held, best), told in zip(choices, marks) if told == least
        for word in best
    ]
    multiples = sorted({tuple([scaled(word, a, p) for word in found]) for found in longer for a in range(1, p)})
    return least, tuple(multiples)


def _zeros(held, n):
    """Return the tuple of the places at which all words are 0."""
    return tuple([at for at in range(n) if not any(_column(held, at))])


def _layers(words, places):
    """Return the lists of the words that have 0, 1, 2 .. items other than 0 at the places."""
    layers = [[] for _ in range(len(places) + 1)]
    for word in words:
        layers[len([1 for at in places if word[at] != 0])].append(word)
    return layers


def _best_words(held, layers, n, p):
    """Return the words, independent of the held ones, that make the least mark together with them."""
    # The words that are 0 where all the held ones are, the first layer, are just those that these span:
    # else, some word with fewer items other than 0 at new places would have been taken before.
    best = [layer for layer in layers[1:] if layer][0]
    # The lines of the held words stay in their order, those of zeros first: so the mark is least if
    # the items at the places of each line in turn are least.
    for group in _groups(held, n, p):
        items = [sorted([word[at] * factor % p for at, factor in group]) for word in best]
        least = min(items)
        best = [word for word, told in zip(best, items) if told == least]
    return best


def _groups(held, n, p):
    """Return for each line of the held words but that of zeros, ascending, the list of the places that have it.

    Each place stands beside the number that makes the column there its line.
    """
    groups = {}
    for at in range(n):
        column = _column(held, at)
        if any(column):
            factor = _norming(column, p)
            groups.setdefault(scaled(column, factor, p), []).append((at, factor))
    return [groups[told] for told in sorted(groups)]


def least_table(code):
    """Return the mark of the last level; without words, empty tuples."""
    # This is the mark of the level 0, too.
    found = mark((), code.n, code.p)
    for least, _ in levels(code):
        found = least
    return found


def form(code):
    """Return the code that the words span whose columns are the tuples of the least table."""
    table = least_table(code)
    return Code(code.p, code.n, [_column(table, at) for at in range(code.k)])
