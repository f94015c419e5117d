"""Monomial maps that carry one code onto another one, and linear maps of a code that keep weights."""

from math import factorial

from weightkeepers.errors import Malformed, Refused
from weightkeepers.forms import least_table, levels, line, mark
from weightkeepers.linear import combine, is_word
from weightkeepers.monomial import Monomial
from weightkeepers.whole import inverse, power
from weightkeepers.words import weight

_MOST_MAPS = 2000


def alike(a, b):
    """Return True if a monomial map carries the one code onto the other one."""
    return have_one_shape(a, b) and least_table(a) == least_table(b)


def have_one_shape(a, b):
    """Return True for codes of one prime, one length and one dimension."""
    return a.p == b.p and a.n == b.n and a.k == b.k


def find_map(a, b):
    """Return a monomial map that carries `a` onto `b`, or None."""
    if not have_one_shape(a, b):
        return None
    return map_by_levels(a, b, levels(a), levels(b))


def map_by_levels(a, b, levels_a, levels_b):
    """Return a monomial map that carries the one code onto the other one of its shape, or None."""
    table, tuples = _last(a, levels_a)
    other_table, other_tuples = _last(b, levels_b)
    if table != other_table:
        return None
    return _carrying(tuples[0], other_tuples[0], a.n, a.p)


def _last(code, found):
    """Return the last one of the levels of a code, for the code of the zero word the level 0."""
    return found[-1] if found else (mark((), code.n, code.p), ((),))


def all_maps(a, b):
    """Return the tuple of all monomial maps that carry `a` onto `b`, ascending by places, then multiples."""
    if not have_one_shape(a, b):
        return ()
    table, tuples = _last(a, levels(a))
    other_table, other_tuples = _last(b, levels(b))
    if table != other_table:
        return ()
    if len(other_tuples) * _count_pairings(table, a.p) > _MOST_MAPS:
        raise Refused("many")
    # Each such map carries one and the same tuple of the last level of `a` to a tuple of that of `b`.
    found = [pair for goal in other_tuples for pair in _pairings(tuples[0], goal, a.n, a.p)]
    return tuple([Monomial(a.p, places, multiples) for places, multiples in sorted(found)])


def automorphisms(code):
    """Return the tuple of all monomial maps that carry the code onto itself, in order."""
    return all_maps(code, code)


def group_order(code):
    """Return the number of the monomial maps that carry the code onto itself."""
    table, tuples = _last(code, levels(code))
    return len(tuples) * _count_pairings(table, code.p)


def _count_pairings(table, p):
    """Return in how many ways one tuple of words with these lines of columns is carried to another one."""
    counts = {}
    for told in table:
        counts[told] = counts.get(told, 0) + 1
    total = 1
    for told, count in counts.items():
        total = total * factorial(count)
        # The multiples are free where all words are 0.
        if not any(told):
            total = total * power(p - 1, count)
    return total


def _columns(words, n, p):
    """Return for each place the pair of the line of the column there and its first item other than 0.

    Where all words are 0, this item is 0.
    """
    columns = [tuple([word[at] for word in words]) for at in range(n)]
    return [(line(column, p), _first_item(column)) for column in columns]


def _first_item(column):
    """Return the first item other than 0, or 0 if there is none."""
    for item in column:
        if item != 0:
            return item
    return 0


def _options(words, goal, n, p):
    """Return for each place the list of the pairs of a place and a multiple that it may be carried with.

    The words have there the items that the words of `goal`, divided by this multiple, have at the other place.
    """
    goals = _columns(goal, n, p)
    options = []
    for told, head in _columns(words, n, p):
        found = [(place, other) for place, (other_line, other) in enumerate(goals) if other_line == told]
        if head == 0:
            options.append([(place, multiple) for place, _ in found for multiple in range(1, p)])
        else:
            options.append([(place, other * inverse(head, p) % p) for place, other in found])
    return options


def _pairings(words, goal, n, p):
    """Return the list of the places and multiples of all monomial maps that carry the words to those of `goal`."""
    found = [((), ())]
    for options in _options(words, goal, n, p):
        found = [
            (places + (place,), multiples + (multiple,))
            for places, multiples in found
            for place, multiple in options
            if place not in places
        ]
    return found


def _carrying(words, goal, n, p):
    """Return a monomial map that carries the words to those of `goal`, or None."""
    places = []
    multiples = []
    for options in _options(words, goal, n, p):
        free = [option for option in options if option[0] not in places]
        if not free:
            return None
        # Any free place will do: places with one line are as good as one another.
        place, multiple = free[0]
        places.append(place)
        multiples.append(multiple)
    return Monomial(p, tuple(places), tuple(multiples))


def image(a, images, word):
    """Return the image of a word of `a` under the linear map with these images of the rows of `a`."""
    width = _first_length(images)
    if not _are_images(a, images, width) or not a.holds(word):
        raise Malformed("the images or the word")
    return _image(a, images, word, width)


def _first_length(images):
    """Return the length of the first image, 0 if there is none, for every value."""
    if isinstance(images, tuple) and len(images) > 0 and isinstance(images[0], tuple):
        return len(images[0])
    return 0


def _are_images(a, images, width):
    """Return True for a tuple of as many words of the width as `a` has rows, for every value."""
    if not isinstance(images, tuple) or len(images) != a.k:
        return False
    return all([is_word(found, a.p, width) for found in images])


def _image(a, images, word, width):
    """Return the image of a word of `a`, which is a word of the width."""
    # At the pivot of a row, where it has its first 1, all other rows are 0.
    multiples = [word[row.index(1)] for row in a.rows]
    return combine(images, multiples, width, a.p)


def changed_weight(a, images):
    """Return the least word of `a` whose weight the linear map changes, or None."""
    if not _are_images(a, images, a.n):
        raise Malformed("the images")
    for word in a.words():
        if weight(word) != weight(_image(a, images, word, a.n)):
            return word
    return None


def extension(a, images):
    """Return a monomial map that carries each word of `a` to its image; None if some weight changes."""
    if not _are_images(a, images, a.n):
        raise Malformed("the images")
    # What carries the rows to their images carries each word to its image; if all weights are kept,
    # the rows and their images have the same lines of columns.
    return _carrying(a.rows, images, a.n, a.p)
