"""Integers of any size in decimal digits."""

from weightkeepers.whole import power

# Python itself turns no more than some thousand digits into a number, or a number into digits, at once.
_BLOCK = 512


def numeral(number):
    """Return the decimal digits of an integer, with a minus sign in front if it is negative."""
    if number < 0:
        return "-" + numeral(-number)
    bases = [power(10, _BLOCK)]
    while bases[-1] <= number:
        bases.append(bases[-1] * bases[-1])
    # All blocks are below the base before: halves of halves, so that few divisions are of large numbers.
    blocks = [number]
    for base in reversed(bases[:-1]):
        blocks = [part for block in blocks for part in divmod(block, base)]
    digits = "".join([str(block).zfill(_BLOCK) for block in blocks]).lstrip("0")
    return digits if digits else "0"


def read_numeral(digits):
    """Return the integer with these decimal digits."""
    # The last digits come first here.
    ends = range(len(digits), 0, -_BLOCK)
    blocks = [int(digits[max(end - _BLOCK, 0):end]) for end in ends]
    base = power(10, _BLOCK)
    while len(blocks) > 1:
        blocks = blocks + [0] * (len(blocks) % 2)
        blocks = [low + high * base for low, high in zip(blocks[::2], blocks[1::2])]
        base = base * base
    return blocks[0]
