"""The three products of mixes: laid, joined and woven."""

from risewords.base.checks import need_between, need_one_of
from risewords.base.exact import is_exact, is_whole
from risewords.base.ratios import binomial
from risewords.errors import TooMany
from risewords.weave.ways import row_product, tops_product
from risewords.word.mixes import mix_of_tops, need_mix, tops_of
from risewords.word.rows import is_row, need_row

WAYS = ("laid", "joined", "woven")
MAX_JOINT = 12


def laid(one, other):
    """The laid product of two mixes."""
    return product(one, other, way="laid")


def joined(one, other):
    """The joined product of two mixes."""
    return product(one, other, way="joined")


def woven(one, other):
    """The woven product of two mixes."""
    return product(one, other, way="woven")


def product(one, other, *, way="joined"):
    """The product of two mixes in a way."""
    need_mix(one)
    need_mix(other)
    need_one_of(way, WAYS)
    if one and other and one.top_weight + other.top_weight > MAX_JOINT:
        raise TooMany(MAX_JOINT)
    left, bottom = tops_of(one)
    right, divisor = tops_of(other)
    return mix_of_tops(tops_product(left, right, way, {}), bottom * divisor)


def power(mix, many, *, way="joined"):
    """The mix, multiplied so many times in a way."""
    need_mix(mix)
    need_between(many, 0, MAX_JOINT)
    need_one_of(way, WAYS)
    if mix and mix.top_weight * many > MAX_JOINT:
        raise TooMany(MAX_JOINT)
    tops, bottom = tops_of(mix)
    total, divisor, known = {(): 1}, 1, {}
    for _ in range(many):
        total = tops_product(total, tops, way, known)
        divisor = divisor * bottom
    return mix_of_tops(total, divisor)


def _need_rows(one, other, way):
    """Refuses the first one of both that is no row, and then a way that is not known."""
    need_row(one)
    need_row(other)
    need_one_of(way, WAYS)


def lay_count(one, other, *, way="joined"):
    """The sum of all numbers of the product of two rows."""
    _need_rows(one, other, way)
    few, many = len(one), len(other)
    if way == "laid":
        return binomial(few + many, few)
    if way == "woven":
        return binomial(sum(one) + sum(other), sum(one))
    # For each number of entries that fall together: which ones of both, and which order of all.
    lots = [binomial(few, both) * binomial(many, both) << both for both in range(min(few, many) + 1)]
    return sum(lots)


def is_product(one, other, value, *, way="joined"):
    """Whether the value is a dict that has the terms of the product of two rows."""
    _need_rows(one, other, way)
    if sum(one) + sum(other) > MAX_JOINT:
        raise TooMany(MAX_JOINT)
    wanted = row_product(one, other, way, {})
    if not isinstance(value, dict) or len(value) != len(wanted):
        return False
    return all([is_row(row) and row in wanted and _is_count(value[row], wanted[row]) for row in value])


def _is_count(value, count):
    """Whether the value is the integer, as such or as a ratio."""
    if is_exact(value):
        return value == (count, 1)
    return is_whole(value) and value == count
