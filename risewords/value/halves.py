"""Values of firm rows by half sums, in integers of a fixed number of bits. Nothing that is passed is checked here.

A half sum is kept as the integer below it times a power of 2, the unit being 1 in the last bit.
"""

from risewords.cut.falling import reached
from risewords.word.rows import dual_row, word_of

# A row of a weight to 20 has bounds that differ by less than 2 to the power of this, in units.
LOST_BITS = 10


def row_bounds(row, bits):
    """Two integers, the value of a firm row, times 2 to the power of the bits, being between them.

    Each of the at most 21 products of the value has two factors of at most 1, and each factor is
    known up to at most 22 units: so the bounds differ by less than 1000 units.
    """
    ahead = _half_bounds(word_of(dual_row(row)), bits)
    behind = _half_bounds(word_of(row), bits)[::-1]
    low = sum([one[0] * other[0] for one, other in zip(ahead, behind)])
    high = sum([one[1] * other[1] for one, other in zip(ahead, behind)])
    return low >> bits, -(-high >> bits)


def _half_bounds(word, bits):
    """The pairs of bounds of the half sums of the ends of a word, the empty end first.

    A letter adds less than 1 unit to what is left out of a share, so shares of an end lack at most as
    many as it has letters. The sum lacks one more, and what lies behind the last step another one.
    """
    scale = 1 << bits
    found = [(scale, scale)]
    shares = [scale] * bits
    for letter in word[::-1]:
        if letter == "y" and len(found) > 1:
            shares = reached(shares, True)
        shares = [share // step for step, share in enumerate(shares, 1)]
        low = _halved(shares)
        found.append((low, low + len(found) + 2))
    return found


def _halved(shares):
    """The sum of the shares, the first one divided by 2, the next one by 4, and so on, cut to an integer."""
    total = 0
    for share in shares:
        total = 2 * total + share
    return total >> len(shares)
