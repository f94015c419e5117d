"""Cosets of a code, their leaders, and the words of the code that are nearest to a word."""

from weightkeepers.errors import Malformed, Refused
from weightkeepers.linear import add, is_word, scaled
from weightkeepers.whole import power
from weightkeepers.words import distance, weight

_MOST_COSETS = 4096


def coset_leaders(code, word):
    """Return the tuple of the words of the least weight in the coset of a word, ascending."""
    _check_word(code, word)
    coset = [add(word, other, code.p) for other in code.words()]
    least = min([weight(found) for found in coset])
    return tuple(sorted([found for found in coset if weight(found) == least]))


def nearest_words(code, word):
    """Return the tuple of the words of the code at the least distance from a word, ascending."""
    least = distance_to(code, word)
    return tuple([found for found in code.words() if distance(found, word) == least])


def distance_to(code, word):
    """Return the distance of a word to its nearest words."""
    _check_word(code, word)
    return min([distance(found, word) for found in code.words()])


def _check_word(code, word):
    """Raise Malformed if the value is no word of the length of the code over its prime."""
    if not is_word(word, code.p, code.n):
        raise Malformed("the word")


def cosets(code):
    """Return the tuple of the pairs of a syndrome and the leaders of its coset, ascending by the syndromes."""
    if power(code.p, code.n - code.k) > _MOST_COSETS:
        raise Refused("large")
    zero = (0,) * code.n
    # A leader without its last item other than 0 is a leader too: a lighter word of that coset would
    # give a lighter word of this one. So the leaders of each weight are found from those before.
    leaders = {code.syndrome(zero): [zero]}
    layer = [(zero, code.syndrome(zero))]
    steps = _steps(code)
    while layer:
        longer = [pair for word, syndrome in layer for pair in _longer(word, syndrome, steps, code.p)]
        # Syndromes that are known already have leaders of a lower weight.
        layer = [(word, syndrome) for word, syndrome in longer if syndrome not in leaders]
        for word, syndrome in layer:
            leaders.setdefault(syndrome, []).append(word)
    return tuple([(syndrome, tuple(sorted(leaders[syndrome]))) for syndrome in sorted(leaders)])


def _steps(code):
    """Return for each place the list of the pairs of an item from 1 on there and the syndrome that it adds."""
    steps = []
    for at in range(code.n):
        column = tuple([check[at] for check in code.checks()])
        steps.append([(item, scaled(column, item, code.p)) for item in range(1, code.p)])
    return steps


def _longer(word, syndrome, steps, p):
    """Return the words that have one item other than 0 more, behind all others, with their syndromes."""
    used = [at for at, item in enumerate(word) if item != 0]
    first = used[-1] + 1 if used else 0
    return [
        (word[:at] + (item,) + word[at + 1:], add(syndrome, step, p))
        for at in range(first, len(word))
        for item, step in steps[at]
    ]


def covering_radius(code):
    """Return the greatest distance of a word to its nearest words."""
    return max([weight(leaders[0]) for _, leaders in cosets(code)])


def count_decided(code):
    """Return the number of the words that have exactly one nearest word."""
    return code.size() * len([1 for _, leaders in cosets(code) if len(leaders) == 1])
