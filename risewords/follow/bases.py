"""Rows of twos and threes, and mixes as sums of them, up to what follows."""

from math import factorial

from risewords.base.checks import need_between
from risewords.base.elimination import making_ratios, product_sum
from risewords.base.exact import is_whole, multiplied, reduced
from risewords.base.ratios import is_ratio
from risewords.errors import InvalidOperation, TooMany
from risewords.follow.relations import bar_rows
from risewords.weave.products import joined
from risewords.word.mixes import MAX_TERMS, mix_of_terms, need_mix, parts_of, tops_of
from risewords.word.rows import firm_rows

MAX_SOLVED = 8
MAX_BASE = 24
MOST_COUNTED = 400


def base_rows(weight):
    """The ascending tuple of all base rows of a weight."""
    need_between(weight, 0, MAX_BASE)
    return tuple(_base_list(weight))


def _base_list(weight):
    """The ascending list of all base rows of a weight, none for a weight below 0."""
    if weight < 2:
        return [()] if weight == 0 else []
    light = [(2, *rest) for rest in _base_list(weight - 2)]
    return light + [(3, *rest) for rest in _base_list(weight - 3)]


def base_count(weight):
    """How many base rows of a weight there are."""
    need_between(weight, 0, MOST_COUNTED)
    # The numbers of three weights side by side: that of the next weight adds up the first two of them.
    here, ahead, far = 1, 0, 1
    for _ in range(weight):
        here, ahead, far = ahead, far, here + ahead
    return here


def coordinates(mix):
    """The dict from base rows to ratios by which a firm mix is told, up to what follows."""
    need_mix(mix)
    if not mix.is_firm_mix:
        raise InvalidOperation("only firm mixes have coordinates")
    if mix and mix.top_weight > MAX_SOLVED:
        raise TooMany(MAX_SOLVED)
    told = {}
    for part in parts_of(mix):
        for row, ratio in _part_coordinates(part):
            told[row] = ratio
    return {row: told[row] for row in sorted(told)}


def _part_coordinates(part):
    """The pairs of a base row and a ratio for a firm mix of one weight: each test finds the same in both."""
    weight = part.top_weight
    tests, found = bar_rows(weight), base_rows(weight)
    rows = list(firm_rows(weight))
    tops, bottom = tops_of(part)
    numbers = [tops.get(row, 0) for row in rows]
    columns = [[test[rows.index(row)] for test in tests] for row in found]
    ratios = making_ratios(columns, [product_sum(test, numbers) for test in tests])
    return [(row, reduced(ratio[0], ratio[1] * bottom)) for row, ratio in zip(found, ratios) if ratio[0] != 0]


def mix_of_coordinates(told):
    """The mix of base rows that a dict tells."""
    if not isinstance(told, dict) or len(told) > MAX_TERMS:
        raise InvalidOperation("a dict of at most 4096 entries is needed")
    if not all([_is_base_row(row) and sum(row) <= MAX_BASE and is_ratio(told[row]) for row in told]):
        raise InvalidOperation("coordinates lead from base rows with weights to 24 to ratios")
    return mix_of_terms(told)


def _is_base_row(value):
    """Whether the value is a tuple of integers 2 and 3."""
    return isinstance(value, tuple) and all([is_whole(entry) and entry in (2, 3) for entry in value])


def base_product(one, other):
    """The coordinates of the joined product of two mixes of base rows."""
    need_mix(one)
    need_mix(other)
    if not all([_is_base_row(row) for mix in (one, other) for row, _ in mix]):
        raise InvalidOperation("mixes of base rows are needed")
    if one and other and one.top_weight + other.top_weight > MAX_SOLVED:
        raise TooMany(MAX_SOLVED)
    return coordinates(joined(one, other))


def two_share(mix):
    """The ratio of a mix to the power of (2) of its weight, up to what follows, or None."""
    need_mix(mix)
    if not mix.is_firm_mix or not mix.is_level:
        raise InvalidOperation("a mix of firm rows of one weight is needed")
    told = coordinates(mix)
    if not told:
        return (0, 1)
    many = mix.top_weight // 2
    twos = (2,) * many
    if list(told) != [twos]:
        return None
    # The row of so many twos is this part of the power: all ways to join them follow from it.
    return multiplied(told[twos], reduced(6 ** (int(many) % 65), factorial(2 * many + 1)))
