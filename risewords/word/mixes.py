"""Mixes: sums of rows, each multiplied by a ratio."""

from risewords.base.checks import need_between
from risewords.base.exact import is_whole, reduced, shared_divisor
from risewords.base.ratios import is_integer, is_ratio
from risewords.base.terms import added_terms, filled_terms, multiplied_terms, opposite_terms
from risewords.base.terms import terms_of_tops, tops_of_terms
from risewords.errors import InvalidMix, InvalidNumber
from risewords.word.rows import MAX_WEIGHT, is_row, need_row

MAX_TERMS = 4096
MAX_MIXES = 200


class Mix:
    """A sum of rows, each multiplied by a ratio other than 0. It never changes."""

    def __init__(self, terms):
        if not _are_terms(terms):
            raise InvalidMix("a mix is told by a dict from at most 4096 rows to numbers other than 0")
        self._terms = {row: ratio_of(terms[row]) for row in sorted(terms)}

    @classmethod
    def of(cls, row):
        """A row as a mix."""
        need_row(row)
        return cls({row: (1, 1)})

    @property
    def terms(self):
        """The dict from the rows, ascending, to their ratios."""
        return {row: self._terms[row] for row in self._terms}

    @property
    def top_weight(self):
        """The greatest weight of the rows, None for the zero mix."""
        return max([sum(row) for row in self._terms], default=None)

    @property
    def is_firm_mix(self):
        """Whether all rows are firm."""
        return all([row == () or row[0] > 1 for row in self._terms])

    @property
    def is_level(self):
        """Whether all rows have one weight."""
        weights = [sum(row) for row in self._terms]
        return all([weight == weights[0] for weight in weights])

    def number_at(self, row):
        """The ratio of a row, (0, 1) for a row that the mix does not have."""
        need_row(row)
        return self._terms.get(row, (0, 1))

    def part(self, weight):
        """The rows of a weight, with their ratios, as a mix."""
        need_between(weight, 0, MAX_WEIGHT)
        return mix_of_terms({row: self._terms[row] for row in self._terms if sum(row) == weight})

    def __add__(self, other):
        if not isinstance(other, Mix):
            return NotImplemented
        return mix_of_terms(added_terms(self._terms, other._terms))

    def __sub__(self, other):
        if not isinstance(other, Mix):
            return NotImplemented
        return mix_of_terms(added_terms(self._terms, opposite_terms(other._terms)))

    def __neg__(self):
        return mix_of_terms(opposite_terms(self._terms))

    def __mul__(self, other):
        if not is_whole(other) and not isinstance(other, tuple):
            return NotImplemented
        if not is_number(other):
            raise InvalidNumber(other)
        return mix_of_terms(multiplied_terms(self._terms, ratio_of(other)))

    def __eq__(self, other):
        return isinstance(other, Mix) and self._terms == other._terms

    def __contains__(self, x):
        return is_row(x) and x in self._terms

    def __len__(self):
        return len(self._terms)

    def __bool__(self):
        return bool(self._terms)

    def __iter__(self):
        return iter(self._terms.items())

    def __str__(self):
        if not self._terms:
            return "mix of 0 rows"
        return f"mix of {len(self._terms)} rows to the weight {self.top_weight}"


def is_number(value):
    """Whether the value is an integer or a ratio, of integers of at most sixty digits."""
    return is_integer(value) or is_ratio(value)


def ratio_of(number):
    """An integer or a ratio as a ratio."""
    return (number, 1) if is_whole(number) else number


def _are_terms(terms):
    """Whether the value is a dict that tells a mix."""
    if not isinstance(terms, dict) or len(terms) > MAX_TERMS:
        return False
    return all([is_row(row) and is_number(terms[row]) and ratio_of(terms[row])[0] != 0 for row in terms])


def mix_of_terms(terms):
    """The mix of a dict from rows to ratios of any size, as many as there are; those of 0 are left out."""
    made = Mix({})
    made._terms = filled_terms(terms)
    return made


def tops_of(mix):
    """A dict from the rows of a mix to integers, and the integer by which all of them are to be divided."""
    return tops_of_terms(mix.terms)


def mix_of_tops(tops, bottom):
    """The mix of a dict from rows to integers, each divided by an integer."""
    return mix_of_terms(terms_of_tops(tops, bottom))


def need_mix(mix):
    """Refuses what is no mix."""
    if not isinstance(mix, Mix):
        raise InvalidMix("an object of Mix is needed")


def parts_of(mix):
    """The tuple of the parts other than zero, by ascending weights."""
    need_mix(mix)
    weights = {sum(row): True for row, _ in mix}
    return tuple([mix.part(weight) for weight in sorted(weights)])


def plain_mix(mix):
    """The multiple with integers without a common divisor, the first one above 0."""
    need_mix(mix)
    if not mix:
        return mix
    tops, _ = tops_of(mix)
    numbers = list(tops.values())
    divisor = shared_divisor(numbers)
    return mix_of_tops(tops, divisor if numbers[0] > 0 else -divisor)


def _is_share(value):
    """Whether the value is a pair of a mix and a number, perhaps 0."""
    return isinstance(value, tuple) and len(value) == 2 and isinstance(value[0], Mix) and is_number(value[1])


def combined(pairs):
    """The sum of some mixes, each multiplied by a number."""
    if not isinstance(pairs, tuple) or len(pairs) > MAX_MIXES or not all([_is_share(pair) for pair in pairs]):
        raise InvalidMix("a tuple of at most 200 pairs of a mix and a number is needed")
    total = {}
    for mix, number in pairs:
        total = added_terms(total, (mix * number).terms)
    return mix_of_terms(total)


def ratio_between(one, other):
    """The ratio other than 0 by which the first mix is multiplied to the second one, or None."""
    need_mix(one)
    need_mix(other)
    if not one and not other:
        return (1, 1)
    left, right = one.terms, other.terms
    if list(left) != list(right):
        return None
    quotients = [reduced(right[row][0] * left[row][1], right[row][1] * left[row][0]) for row in left]
    return quotients[0] if all([ratio == quotients[0] for ratio in quotients]) else None
