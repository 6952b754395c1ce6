"""Ratios of integers of at most sixty digits, binomials and Bernoulli's numbers."""

from math import comb

from risewords.base.checks import need_between
from risewords.base.exact import added, is_exact, is_whole, multiplied, opposite, reduced
from risewords.errors import InvalidNumber, InvalidOperation, InvalidRatio

LONG = 10 ** 60
MAX_CHOSEN = 400
MAX_BERNOULLI = 200


def is_integer(value):
    """Whether the value is an integer of at most sixty digits."""
    return is_whole(value) and -LONG < value < LONG


def is_ratio(value):
    """Whether the value is a ratio of two integers of at most sixty digits."""
    return is_exact(value) and is_integer(value[0]) and is_integer(value[1])


def need_ratio(value):
    """Refuses what is no ratio."""
    if not is_ratio(value):
        raise InvalidRatio("a ratio is a pair of integers in lowest terms, the second one above 0")


def need_ratios(one, other):
    """Refuses the first one of both that is no ratio."""
    need_ratio(one)
    need_ratio(other)


def lowest(top, bottom):
    """The ratio of two integers."""
    if not is_integer(top):
        raise InvalidNumber(top)
    if not is_integer(bottom) or bottom == 0:
        raise InvalidNumber(bottom)
    return reduced(top, bottom)


def plus(one, other):
    """The sum of two ratios."""
    need_ratios(one, other)
    return added(one, other)


def minus(one, other):
    """The first ratio less the second one."""
    need_ratios(one, other)
    return added(one, opposite(other))


def times(one, other):
    """The product of two ratios."""
    need_ratios(one, other)
    return multiplied(one, other)


def over(one, other):
    """The first ratio divided by the second one."""
    need_ratios(one, other)
    if other[0] == 0:
        raise InvalidOperation("0 divides no ratio")
    return reduced(one[0] * other[1], one[1] * other[0])


def compare(one, other):
    """-1, 0 or 1 if the first ratio is less than, equal to or greater than the second one."""
    need_ratios(one, other)
    gap = one[0] * other[1] - other[0] * one[1]
    if gap < 0:
        return -1
    return 1 if gap > 0 else 0


def ratio_text(ratio):
    """A text such as -3/2, or 5 for an integer."""
    need_ratio(ratio)
    top, bottom = ratio
    return str(top) if bottom == 1 else f"{top}/{bottom}"


def binomial(top, low):
    """The number of the lots of `low` among `top` things."""
    need_between(top, 0, MAX_CHOSEN)
    need_between(low, 0, MAX_CHOSEN)
    return comb(top, low)


def bernoulli(number):
    """Bernoulli's number of an index, a ratio."""
    need_between(number, 0, MAX_BERNOULLI)
    found = [(1, 1)]
    while len(found) <= number:
        found.append(_next_bernoulli(found))
    return found[number]


def _next_bernoulli(found):
    """The number B(n) behind B(0) to B(n - 1): the only one that makes the sum of its rule 0."""
    index = len(found)
    if index > 1 and index % 2 == 1:
        return (0, 1)
    total = (0, 1)
    for low, ratio in enumerate(found):
        if ratio[0] != 0:
            total = added(total, reduced(comb(index + 1, low) * ratio[0], ratio[1]))
    return multiplied(total, (-1, index + 1))
