"""Sums of multiples of rows of integers, and the rows that bar all others. Nothing that is passed is checked here.

Rows are passed as dicts from columns to integers. In an elimination each row is one integer, its
entries being the digits in a base of so many bits, perhaps below 0: so Python adds up whole rows.
"""

from risewords.base.elimination import primitive
from risewords.base.exact import reduced


def is_made(row, makers, width):
    """Whether a row is a sum of multiples of others."""
    bits = _bits_for([*makers, row])
    number, _ = _cleared_by(_packed(row, bits), _steps_of(makers, bits, 0, width), bits)
    return number == 0


def rank_of(makers, width):
    """How many of some rows do not hang on one another."""
    return len(_steps_of(makers, _bits_for(makers), 0, width))


def making_shares(row, makers, width):
    """The list of ratios with which other rows, each times its own, add up to a row, or None."""
    many = len(makers)
    marked = [{**_moved(maker, many), at: 1} for at, maker in enumerate(makers)]
    wanted = _moved(row, many)
    bits = _bits_for([*marked, wanted])
    number, factor = _cleared_by(_packed(wanted, bits), _steps_of(marked, bits, many, many + width), bits)
    if _top_digit(number, bits, many) != 0:
        return None
    # What is left are the marks: of each of the other rows as often as it was added.
    return [reduced(-share, factor) for share in _unpacked(number, _halves(bits, many), bits, many)]


def barring_rows(makers, width):
    """The echelon of all rows whose products with each of some rows add up to 0."""
    bits = _bits_for(makers)
    steps = _steps_of(makers, bits, 0, width)
    leads = {column: True for column, _, _ in steps}
    free = [column for column in range(width) if column not in leads]
    scale = steps[-1][2] if steps else 1
    # For each column its entries in all rows that are asked for, one for each free column, as digits.
    entries = {column: scale << bits * at for at, column in enumerate(free)}
    halves = _halves(bits, width)
    for column, pivot, lead in steps[::-1]:
        others = _unpacked(pivot, halves, bits, column)
        entries[column] = -sum([other * entries[at] for at, other in enumerate(others) if other != 0]) // lead
    solved = {column: _unpacked(entries[column], halves, bits, len(free)) for column in leads}
    found = []
    for at, column in enumerate(free):
        row = [solved[place][at] if place in solved else 0 for place in range(width)]
        row[column] = scale
        found.append(primitive(row))
    return tuple(found)


def _moved(row, many):
    """A row with so many columns ahead."""
    return {many + column: entry for column, entry in row.items()}


def _bits_for(rows):
    """Bits enough for the digits of each elimination in some rows.

    Each digit is a determinant of a part of the rows, so it is at most the product of their lengths.
    """
    product = 1
    for row in rows:
        product = product * max(1, sum([entry * entry for entry in row.values()]))
    return 2 + (product.bit_length() + 1) // 2


def _packed(row, bits):
    """The integer of a row."""
    return sum([entry << bits * column for column, entry in row.items()])


def _halves(bits, many):
    """The integer of a row of so many entries, each of them half of the base."""
    return (1 << bits - 1) * (((1 << bits * many) - 1) // ((1 << bits) - 1))


def _unpacked(number, halves, bits, many):
    """The list of the entries of the first columns, so many of them; the halves are for as many or more."""
    half, most = 1 << bits - 1, (1 << bits) - 1
    # With half of the base added to each of the digits, none of them is below 0.
    raised = number + halves
    return [(raised >> bits * column & most) - half for column in range(many)]


def _top_digit(number, bits, column):
    """The entry of a column behind which there are no others."""
    shift = bits * column
    return (number + (1 << shift >> 1)) >> shift


def _steps_of(rows, bits, low, high):
    """A list of (column, row, lead): rows with the same sums of multiples, each of them 0 behind its lead.

    The leads are above 0, in columns from `high` less 1 down to `low`. Lower columns are taken along.
    """
    left = [_packed(row, bits) for row in rows]
    steps = []
    former = 1
    for column in range(high - 1, low - 1, -1):
        shift = bits * column
        half = 1 << shift >> 1
        heads = [number + half >> shift for number in left]
        sizes = [abs(head) for head in heads if head != 0]
        if sizes:
            # A lead of 1 leaves rows that have 0 there as they are.
            at = [abs(head) for head in heads].index(min(sizes))
            lead, pivot = abs(heads[at]), left[at] if heads[at] > 0 else -left[at]
            del left[at], heads[at]
            left = [_cleared(number, head, lead, pivot, former) if head != 0 or lead != former else number
                    for number, head in zip(left, heads)]
            steps.append((column, pivot, lead))
            former = lead
    return steps


def _cleared(number, head, lead, pivot, former):
    """A row with 0 in the place of its head, taken off by a pivot row with a lead there."""
    # All digits are determinants of parts of the first rows, so the former lead divides them.
    return (lead * number - head * pivot) // former


def _cleared_by(number, steps, bits):
    """A further row with 0 in the columns of all steps, and the integer by which it was multiplied."""
    former = 1
    for column, pivot, lead in steps:
        number = _cleared(number, _top_digit(number, bits, column), lead, pivot, former)
        former = lead
    return number, former
