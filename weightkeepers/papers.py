"""Papers: what shows a least distance, that codes are alike or not, what a linear map does, and nearest words."""

from weightkeepers.errors import Refused
from weightkeepers.forms import levels
from weightkeepers.maps import changed_weight, extension, have_one_shape, map_by_levels
from weightkeepers.nearest import distance_to, nearest_words
from weightkeepers.weights import minimum_words
from weightkeepers.words import weight


def distance_paper(code):
    """Return the paper of the least distance, with the least word of this weight."""
    found = minimum_words(code)
    if not found:
        raise Refused("zero")
    return "distance", weight(found[0]), found[0]


def pair_paper(a, b):
    """Return a paper that shows that two codes are alike, or that they are not."""
    if not have_one_shape(a, b):
        return "unlike", (), ()
    levels_a = levels(a)
    levels_b = levels(b)
    told = map_by_levels(a, b, levels_a, levels_b)
    if told is None:
        return "unlike", levels_a, levels_b
    return "alike", told.places, told.multiples


def map_paper(a, images):
    """Return a paper that shows that a linear map keeps all weights, or that it changes one."""
    told = extension(a, images)
    if told is not None:
        return "keeps", told.places, told.multiples
    return "changes", changed_weight(a, images)


def nearest_paper(code, word):
    """Return the paper of the nearest words of a word."""
    return "nearest", distance_to(code, word), nearest_words(code, word)
