"""The checker of papers. It works with numbers, words and codes alone, apart from what makes the papers."""

from weightkeepers.linear import combine, coordinates, is_word, scaled
from weightkeepers.values import same
from weightkeepers.whole import inverse, is_integer
from weightkeepers.words import distance, weight

_MOST_TUPLES = 3000


def _is_paper(value, title, length):
    """Return True for a tuple of this length that begins with the title, for every value."""
    return isinstance(value, tuple) and len(value) == length and same(value[0], title)


def takes_distance(code, paper):
    """Return True if the paper shows the least distance of a code, for every value of `paper`."""
    if not _is_paper(paper, "distance", 3):
        return False
    _, d, word = paper
    if not is_integer(d) or d < 1 or not code.holds(word) or weight(word) != d:
        return False
    return all([weight(other) >= d for other in code.words() if any(other)])


def takes_nearest(code, word, paper):
    """Return True if the paper tells the nearest words of a word, for every value of `paper`."""
    if not _is_paper(paper, "nearest", 3):
        return False
    _, d, told = paper
    least = min([distance(other, word) for other in code.words()])
    expected = [other for other in code.words() if distance(other, word) == least]
    return is_integer(d) and d == least and same(told, tuple(expected))


def takes_map(a, images, paper):
    """Return True if the paper shows what a linear map of a code does to weights, for every value of `paper`."""
    if _is_paper(paper, "keeps", 3):
        _, places, multiples = paper
        if not _is_monomial(places, multiples, a.p, a.n):
            return False
        return all([_carried(row, places, multiples, a.p) == found for row, found in zip(a.rows, images)])
    if _is_paper(paper, "changes", 2):
        return a.holds(paper[1]) and _is_changed(a, images, paper[1])
    return False


def _is_changed(a, images, word):
    """Return True if the image of a word of the code has another weight."""
    multiples = coordinates(a.rows, word, a.p)
    return weight(combine(images, multiples, a.n, a.p)) != weight(word)


def _is_monomial(places, multiples, p, n):
    """Return True if the values tell a monomial map of the length `n` over `p`, for every value."""
    if not isinstance(places, tuple) or not all([is_integer(place) for place in places]):
        return False
    return sorted(places) == list(range(n)) and is_word(multiples, p, n) and 0 not in multiples


def _carried(word, places, multiples, p):
    """Return the word that a monomial map carries a word to."""
    items = [0] * len(word)
    for item, place, multiple in zip(word, places, multiples):
        items[place] = item * multiple % p
    return tuple(items)


def takes_pair(a, b, paper):
    """Return True if the paper shows that two codes are alike, or that they are not, for every value of `paper`."""
    if _is_paper(paper, "alike", 3):
        return _are_carried(a, b, paper[1], paper[2])
    if _is_paper(paper, "unlike", 3):
        return _are_unlike(a, b, paper[1], paper[2])
    return False


def _are_carried(a, b, places, multiples):
    """Return True if the values tell a monomial map that carries the one code onto the other one."""
    if a.p != b.p or a.n != b.n or a.k != b.k or not _is_monomial(places, multiples, a.p, a.n):
        return False
    # A monomial map carries unlike words to unlike ones: so it is enough that the rows come into `b`.
    return all([b.holds(_carried(row, places, multiples, a.p)) for row in a.rows])


def _are_unlike(a, b, levels_a, levels_b):
    """Return True if the values show that no monomial map carries the one code onto the other one."""
    if a.p != b.p or a.n != b.n or a.k != b.k:
        return same((levels_a, levels_b), ((), ()))
    if a.k == 0 or not _are_levels(a, levels_a) or not _are_levels(b, levels_b):
        return False
    return levels_a[-1][0] != levels_b[-1][0]


def _are_levels(code, value):
    """Return True if the value is the tuple of the levels of a code, for every value."""
    if not isinstance(value, tuple) or len(value) != code.k:
        return False
    words = list(code.words())
    tuples = ((),)
    for told in value:
        mark, tuples = _next_level(tuples, words, code.n, code.p)
        if len(tuples) > _MOST_TUPLES or not same(told, (mark, tuples)):
            return False
    return True


def _next_level(tuples, words, n, p):
    """Return the level whose tuples are tuples of the level before with one word more."""
    # The multiples of a tuple have its mark: it is enough to extend one of them.
    heads = [held for held in tuples if held == () or _begins_with_one(held[0])]
    candidates = {}
    least = []
    best = []
    for held in heads:
        columns = [tuple([word[at] for word in held]) for at in range(n)]
        free = tuple([at for at, column in enumerate(columns) if not any(column)])
        if free not in candidates:
            candidates[free] = _with_fewest(words, free)
        ranks = _ranks(columns, p)
        for word in candidates[free]:
            found = sorted([rank[item] for rank, item in zip(ranks, word)])
            if not best or found < least:
                least = found
                best = []
            if found == least:
                best.append(held + (word,))
    longer = [found for found in best if _begins_with_one(found[0])]
    multiples = [tuple([scaled(word, a, p) for word in found]) for found in longer for a in range(1, p)]
    return _mark(best[0], n, p), tuple(sorted(multiples))


def _begins_with_one(word):
    """Return True if the first item other than 0 is 1."""
    return [item for item in word if item != 0][:1] == [1]


def _with_fewest(words, places):
    """Return the words that have the fewest items other than 0 at the places, but at least one.

    The places are those at which the words of a tuple of a level are 0: the words that are 0 there, too, are
    spanned by the tuple, and any others give a lesser mark the fewer such items they have.
    """
    layers = [[] for _ in range(len(places) + 1)]
    for word in words:
        layers[len([1 for at in places if word[at] != 0])].append(word)
    return [layer for layer in layers[1:] if layer][0]


def _normed(column, p):
    """Return the line of a column, and the number that it is multiplied by for this."""
    for item in column:
        if item != 0:
            factor = inverse(item, p)
            return scaled(column, factor, p), factor
    return column, 1


def _mark(words, n, p):
    """Return the mark of a tuple of words."""
    columns = [tuple([word[at] for word in words]) for at in range(n)]
    return tuple(sorted([_normed(column, p)[0] for column in columns]))


def _ranks(columns, p):
    """Return for each column the list of numbers, one for each item that one word more may have there.

    The numbers stand in the order of the lines that the columns have with these items.
    """
    normed = [_normed(column, p) for column in columns]
    lines = sorted({line for line, _ in normed})
    ranks = []
    for line, factor in normed:
        start = lines.index(line) * p
        if any(line):
            ranks.append([start + item * factor % p for item in range(p)])
        else:
            ranks.append([start] + [start + 1] * (p - 1))
    return ranks
