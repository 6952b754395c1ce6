"""Sums of multiples of relations, and the rows that bar all others. Nothing that is passed is checked here.

Rows are passed as dicts from columns to integers. In an elimination each row is one integer, its
entries being the digits in a great base, perhaps below 0: so Python adds up whole rows at once.
"""

from risewords.base.elimination import primitive
from risewords.base.exact import reduced

# A digit is a determinant of a part of the rows. Those of relations to the weight 8 have at most 72 bits.
BITS = 96
HALF = 1 << 95
MOST = (1 << 96) - 1


def is_made(row, makers, width):
    """Whether a row is a sum of multiples of relations."""
    left, _ = _cleared_by(row, _steps_of(makers, 0, width), width)
    return all([entry == 0 for entry in left])


def rank_of(makers, width):
    """How many of some relations do not hang on one another."""
    return len(_steps_of(makers, 0, width))


def making_shares(row, makers, width):
    """The list of ratios with which relations, each times its own, add up to a row, or None."""
    many = len(makers)
    marked = [{**_moved(maker, many), at: 1} for at, maker in enumerate(makers)]
    left, factor = _cleared_by(_moved(row, many), _steps_of(marked, many, many + width), many + width)
    if any([entry != 0 for entry in left[many:]]):
        return None
    # What is left are the marks: of each relation as often as it was added.
    return [reduced(-share, factor) for share in left[:many]]


def barring_rows(makers, width):
    """The echelon of all rows whose products with each of some relations add up to 0."""
    steps = _steps_of(makers, 0, width)
    halves = _halves(width)
    leads = {column: True for column, _, _ in steps}
    free = [column for column in range(width) if column not in leads]
    scale = steps[-1][2] if steps else 1
    # For each column its entries in all rows that are asked for, one for each free column, as digits.
    entries = {column: scale << BITS * at for at, column in enumerate(free)}
    for column, pivot, lead in steps[::-1]:
        others = _unpacked(pivot, halves, column)
        entries[column] = -sum([other * entries[at] for at, other in enumerate(others) if other != 0]) // lead
    solved = {column: _unpacked(entries[column], halves, len(free)) for column in leads}
    found = []
    for at, column in enumerate(free):
        row = [solved[place][at] if place in solved else 0 for place in range(width)]
        row[column] = scale
        found.append(primitive(row))
    return tuple(found)


def _moved(row, many):
    """A row with so many columns ahead."""
    return {many + column: entry for column, entry in row.items()}


def _packed(row):
    """The integer of a row."""
    return sum([entry << BITS * column for column, entry in row.items()])


def _halves(many):
    """The integer of a row of so many entries, each of them half of the base."""
    return HALF * (((1 << BITS * many) - 1) // MOST)


def _unpacked(number, halves, many):
    """The list of the entries of the first columns, so many of them; the halves are for as many or more."""
    # With half of the base added to each of the digits, none of them is below 0.
    raised = number + halves
    return [(raised >> BITS * column & MOST) - HALF for column in range(many)]


def _steps_of(rows, low, high):
    """A list of (column, row, lead): rows with the same sums of multiples, each of them 0 behind its lead.

    The leads are above 0, in columns from `high` less 1 down to `low`. Lower columns are taken along.
    """
    left = [_packed(row) for row in rows]
    steps = []
    former = 1
    for column in range(high - 1, low - 1, -1):
        shift = BITS * column
        half = 1 << shift >> 1
        heads = [number + half >> shift for number in left]
        sizes = [abs(head) for head in heads if head != 0]
        if sizes:
            # A lead of 1 leaves rows that have 0 there as they are.
            at = [abs(head) for head in heads].index(min(sizes))
            lead, pivot = abs(heads[at]), left[at] if heads[at] > 0 else -left[at]
            del left[at], heads[at]
            left = [_cleared(number, head, lead, pivot, former) if head != 0 or lead != former else number
                    for number, head in zip(left, heads)]
            steps.append((column, pivot, lead))
            former = lead
    return steps


def _cleared(number, head, lead, pivot, former):
    """A row with 0 in the place of its head, taken off by a pivot row with a lead there."""
    # All digits are determinants of parts of the first rows, so the former lead divides them.
    return (lead * number - head * pivot) // former


def _cleared_by(row, steps, width):
    """The entries of a further row with 0 in the columns of all steps, and the integer that multiplied it.

    They are kept one by one: this row can have far longer integers than relations have.
    """
    halves = _halves(width)
    left = [row.get(column, 0) for column in range(width)]
    former = 1
    for column, pivot, lead in steps:
        head = left[column]
        # Without a head it needs no further multiple, either.
        if head != 0:
            others = _unpacked(pivot, halves, width)
            left = [_cleared(entry, head, lead, other, former) for entry, other in zip(left, others)]
            former = lead
    return left, former
