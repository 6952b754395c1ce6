"""Rows of two entries and one: their relations, what follows from these, and how odd weights come apart."""

from math import comb

from risewords.base.checks import need_between
from risewords.base.elimination import eliminated, primitive
from risewords.base.exact import is_whole, reduced
from risewords.base.tables import is_span_paper, span_paper
from risewords.errors import InvalidNumber, InvalidOperation

MAX_PAIRED = 40
LEAST_PAIRED = 3
MOST_APART = 38
LONGER_THAN_TWENTY = 10 ** 20


def pair_rows(weight):
    """The tuple of the rows for which the pair letters of a weight stand."""
    need_between(weight, LEAST_PAIRED, MAX_PAIRED)
    return tuple([(one, weight - one) for one in range(1, weight)] + [(weight,)])


def pair_relations(weight):
    """The tuple of all pair relations of a weight, each a tuple of integers."""
    need_between(weight, LEAST_PAIRED, MAX_PAIRED)
    return tuple([_relation(one, weight - one) for one in range(1, weight // 2 + 1)])


def _relation(one, other):
    """The joined product of two rows of one entry, less what comes of them if they are woven."""
    weight = one + other
    woven = [comb(first - 1, one - 1) + comb(first - 1, other - 1) for first in range(1, weight)]
    return tuple([entry - less for entry, less in zip(_joined_pair(one, other), [*woven, 0])])


def _joined_pair(one, other):
    """The numbers of the joined product of two rows of one entry."""
    numbers = [0] * (one + other)
    for place in (one - 1, other - 1, one + other - 1):
        numbers[place] += 1
    return numbers


def pair_left(weight):
    """The dimension of the pair letters of a weight, up to what follows."""
    need_between(weight, LEAST_PAIRED, MAX_PAIRED)
    return (weight + 1) // 2


def pair_paper(weight, numbers):
    """A paper on some numbers: ratios that make them of the pair relations, or a test that bars them."""
    _need_numbers(weight, numbers)
    return span_paper(pair_relations(weight), numbers)


def is_pair_paper(weight, numbers, value):
    """Whether the value is a right paper on some numbers."""
    _need_numbers(weight, numbers)
    return is_span_paper(pair_relations(weight), numbers, value)


def _need_numbers(weight, numbers):
    """Refuses what is no weight, and then what is no tuple of an integer for each pair letter."""
    need_between(weight, LEAST_PAIRED, MAX_PAIRED)
    if not isinstance(numbers, tuple) or len(numbers) != weight:
        raise InvalidOperation("a tuple with an integer for each pair letter is needed")
    if not all([is_whole(number) and abs(number) < LONGER_THAN_TWENTY for number in numbers]):
        raise InvalidOperation("only integers of at most twenty digits are allowed")


def odd_relations(weight):
    """The echelon of all odd relations of an even weight."""
    need_between(weight, LEAST_PAIRED, MAX_PAIRED)
    if weight % 2 == 1:
        raise InvalidNumber(weight)
    alone = [0] * (weight - 1) + [1]
    evens = [_joined_pair(one, weight - one) for one in range(2, weight // 2 + 1, 2)]
    odd = list(range(2, weight - 3, 2))
    order = [place for place in range(weight) if place not in odd] + odd
    rows = [[row[place] for place in order] for row in [*pair_relations(weight), *evens, alone]]
    # With the odd letters behind all others, those rows that lead at them have nothing else.
    solved, leads = eliminated(rows)
    others = weight - len(odd)
    return tuple([primitive(row[others:]) for row, lead in zip(solved, leads) if lead >= others])


def apart_numbers(one, other):
    """The ratios of a pair letter of an odd weight at the joined products, and at the row of one entry."""
    need_between(one, 1, MOST_APART)
    need_between(other, 1, MOST_APART)
    weight = one + other
    if weight % 2 == 0 or weight >= MAX_PAIRED:
        raise InvalidOperation("the sum of both entries is to be odd, and at most 39")
    sign = -1 if other % 2 else 1
    numbers = [(0, 1)] * (weight // 2)
    for even in range(2, weight - 1, 2):
        number = sign * (_lots(one, other, even) - int(one == even))
        numbers[min(even, weight - even) - 1] = (number, 1)
    if one == 1:
        numbers[0] = (1, 1)
    # The row of one entry stands for the product with the even entry 0, which counts -1/2.
    return (*numbers, reduced(-sign * _lots(one, other, 0) - 1, 2))


def _lots(one, other, even):
    """The lots of each entry less 1 among what their sum has besides an even entry, less 1."""
    rest = one + other - even - 1
    return comb(rest, one - 1) + comb(rest, other - 1)
