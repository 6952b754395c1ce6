"""Even polynomials of two letters that go round, and the pair relations that they tell."""

from math import comb

from risewords.base.checks import need_between
from risewords.base.elimination import kernel_rows, making_ratios
from risewords.base.exact import is_exact, opposite, reduced, shared_bottom
from risewords.base.ratios import is_integer, is_ratio
from risewords.errors import InvalidNumber, InvalidOperation, InvalidTable
from risewords.pair.pairs import MAX_PAIRED, pair_relations

LEAST_ROUND = 4


def _need_even(weight):
    """Refuses all but the even integers from 4 to 40."""
    need_between(weight, LEAST_ROUND, MAX_PAIRED)
    if weight % 2 == 1:
        raise InvalidNumber(weight)


def is_round(weight, value):
    """Whether the value is a round row, a tuple of ratios."""
    _need_even(weight)
    if not isinstance(value, tuple) or len(value) != weight - 1 or not all([is_exact(ratio) for ratio in value]):
        return False
    tops, _ = _tops_of(value)
    return _goes_round(tops)


def _tops_of(ratios):
    """The list of some ratios, times a bottom; the bottom."""
    bottom = shared_bottom(ratios)
    return [top * (bottom // below) for top, below in ratios], bottom


def _goes_round(tops):
    """Whether the polynomial with these coefficients has even exponents alone, and goes round."""
    if any([top != 0 for top in tops[1::2]]):
        return False
    sums = [one + other for one, other in zip(_first_shifted(tops), _second_shifted(tops))]
    return sums == tops


def _first_shifted(tops):
    """The coefficients of the polynomial with X + Y in the place of X."""
    size = len(tops)
    return [sum([tops[at] * comb(at, low) for at in range(low, size)]) for low in range(size)]


def _second_shifted(tops):
    """The coefficients of the polynomial with X + Y in the place of Y."""
    return _first_shifted(tops[::-1])[::-1]


def cusp_count(weight):
    """How many dimensions the closed rows of a weight have."""
    _need_even(weight)
    return weight // 12 - int(weight % 12 == 2)


def round_rows(weight):
    """The echelon of the closed rows of a weight, tuples of integers."""
    _need_even(weight)
    size = weight - 1
    places = list(range(2, weight - 3, 2))
    columns = [_left_over(size, place) for place in places]
    found = kernel_rows([[column[at] for column in columns] for at in range(size)])
    return tuple([_with_places(size, places, row) for row in found])


def _left_over(size, place):
    """What going round adds to the polynomial with the coefficient 1 at a place, and 0 elsewhere."""
    tops = [int(at == place) for at in range(size)]
    return [one + other - top for one, other, top in zip(_first_shifted(tops), _second_shifted(tops), tops)]


def _with_places(size, places, numbers):
    """The tuple with some numbers at some places, and 0 elsewhere."""
    row = [0] * size
    for place, number in zip(places, numbers):
        row[place] = number
    return tuple(row)


def round_numbers(weight, row):
    """The tuple of the numbers of a round row."""
    _need_even(weight)
    tops, bottom = _row_tops(weight, row)
    return tuple(_numbers(tops, bottom))


def _row_tops(weight, row):
    """The entries of a round row, times a bottom; the bottom. Refuses what is no round row."""
    if not isinstance(row, tuple) or len(row) != weight - 1:
        raise InvalidTable("a round row has one entry fewer than its weight tells")
    if all([is_integer(entry) for entry in row]):
        tops, bottom = list(row), 1
    elif all([is_ratio(entry) for entry in row]):
        tops, bottom = _tops_of(row)
    else:
        raise InvalidTable("a round row has integers alone, or ratios alone")
    if not _goes_round(tops):
        raise InvalidTable("the polynomial of a round row has even exponents alone, and goes round")
    return tops, bottom


def _numbers(tops, bottom):
    """The list of the numbers of a round row that is told by its entries, times a bottom, and this one."""
    degree = len(tops) - 1
    return [reduced(top, bottom * comb(degree, low)) for low, top in enumerate(_first_shifted(tops))]


def round_relation(weight, row):
    """The ratios of the pair letters in the relation of a closed row."""
    _need_even(weight)
    tops, bottom = _row_tops(weight, row)
    if tops[-1] != 0:
        raise InvalidOperation("only closed rows have a relation")
    ratios = _numbers(tops, bottom)
    # The numbers at the first and at the last letter of two entries are 0 for a closed row.
    for low in range(0, weight - 1, 2):
        ratios[low] = reduced(-3 * ratios[low][0], ratios[low][1])
    return (*ratios, _last_ratio(weight, ratios))


def _last_ratio(weight, ratios):
    """The ratio of the last letter with which it and the ratios of the others follow."""
    numbers, bottom = _tops_of(ratios)
    alone = [0] * (weight - 1) + [1]
    made = making_ratios([*pair_relations(weight), alone], [*numbers, 0])
    top, below = opposite(made[-1])
    return reduced(top, below * bottom)
