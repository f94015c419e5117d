"""Values as papers, replies and logs hold them."""


def same(one, other):
    """Return True if the values are equal, with True and False at the same places, for every value."""
    # Without recursion, since values may be nested to any depth.
    left = [(one, other)]
    while left:
        a, b = left.pop()
        if _are_rows(a, b):
            if len(a) != len(b):
                return False
            left.extend(list(zip(a, b)))
        elif isinstance(a, bool) != isinstance(b, bool) or a != b:
            return False
    return True


def _are_rows(a, b):
    """Return True if both values are tuples, or both are lists."""
    return (isinstance(a, tuple) and isinstance(b, tuple)) or (isinstance(a, list) and isinstance(b, list))


def is_letters(value, most):
    """Return True for a string of 1 to `most` small letters, for every value."""
    return isinstance(value, str) and 1 <= len(value) <= most and all(["a" <= sign <= "z" for sign in value])
