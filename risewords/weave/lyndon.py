"""Lyndon rows, and mixes as polynomials in them."""

from math import gcd

from risewords.base.checks import need_between, need_one_of
from risewords.base.exact import reduced, shared_bottom
from risewords.base.ratios import is_ratio
from risewords.errors import InvalidMix, TooMany
from risewords.weave.products import WAYS
from risewords.weave.ways import tops_product
from risewords.word.mixes import mix_of_tops, need_mix, tops_of
from risewords.word.rows import is_row, need_row, row_of, rows_of, word_of

MAX_LISTED = 14
MAX_FORMED = 10
MOST_COUNTED = 200


def is_lyndon(value):
    """Whether the value is a Lyndon row."""
    return is_row(value) and len(factors_of(value)) == 1


def lyndon_rows(weight):
    """Yields all Lyndon rows of a weight, ascending."""
    need_between(weight, 1, MAX_LISTED)
    yield from _lyndon_list(weight)


def _lyndon_list(weight):
    """The list of all Lyndon rows of a weight, ascending.

    A greater entry begins a lesser word. So the beginnings of Lyndon rows are those rows that repeat
    their first Lyndon row, as often as it goes, and then break off or put a lesser entry: with
    this one the whole row is the first Lyndon row.
    """
    found = []
    waiting = [((first,), 1, weight - first) for first in range(weight, 0, -1)]
    while waiting:
        row, period, left = waiting.pop()
        size = len(row)
        if left == 0 and period == size:
            found.append(row)
        most = row[size - period]
        for entry in range(min(most, left), 0, -1):
            waiting.append(((*row, entry), period if entry == most else size + 1, left - entry))
    return found


def lyndon_count(weight):
    """The number of all Lyndon rows of a weight."""
    need_between(weight, 1, MOST_COUNTED)
    if weight == 1:
        return 1
    parts = [part for part in range(1, weight + 1) if weight % part == 0]
    return sum([_mobius(part) * (1 << (weight // part)) for part in parts]) // weight


def _mobius(number):
    """0 if a square above 1 divides the number, otherwise -1 to the power of the number of its primes."""
    sign = 1
    prime = 2
    while number > 1:
        if number % prime == 0:
            number = number // prime
            if number % prime == 0:
                return 0
            sign = -sign
        prime += 1
    return sign


def factors_of(row):
    """The tuple of the factors of a row."""
    need_row(row)
    found = []
    # Two Lyndon words side by side that ascend make one Lyndon word.
    for word in [word_of((entry,)) for entry in row]:
        while found and found[-1] < word:
            word = found.pop() + word
        found.append(word)
    return tuple([row_of(word) for word in found])


def lyndon_form(mix, *, way="joined"):
    """The form of a mix for a way: a dict from Lyndon tuples to ratios."""
    need_mix(mix)
    need_one_of(way, WAYS)
    if mix and mix.top_weight > MAX_FORMED:
        raise TooMany(MAX_FORMED)
    tops, bottom = tops_of(mix)
    form, made, known = {}, {}, {}
    rows = _leading_rows(tops)
    for row in rows:
        if tops.get(row, 0) != 0:
            factors = factors_of(row)
            terms = _tuple_product(factors, way, made, known)
            tops, bottom = _made_divisible(tops, bottom, row, terms[row])
            share = tops[row] // terms[row]
            form[factors] = reduced(share, bottom)
            _take_away(tops, terms, share)
    return {factors: form[factors] for factors in sorted(form)}


def _made_divisible(tops, bottom, row, divisor):
    """The same integers and bottom, multiplied as far as the divisor needs it to divide that of the row."""
    scale = divisor // gcd(divisor, tops[row])
    if scale == 1:
        return tops, bottom
    return {each: tops[each] * scale for each in tops}, bottom * scale


def _leading_rows(tops):
    """All rows of the weights that there are, each ahead of the others that the product of its factors has.

    The words of these others are less, for joined products as well: two entries that fall together
    make a word less. Of rows of one weight the lesser one has the greater word.
    """
    weights = {sum(row): True for row in tops}
    return [row for weight in weights for row in rows_of(weight)]


def _tuple_product(rows, way, made, known):
    """The product of the rows of a tuple, a dict to integers; `made` keeps those that are made."""
    if not rows:
        return {(): 1}
    if rows not in made:
        made[rows] = tops_product({rows[0]: 1}, _tuple_product(rows[1:], way, made, known), way, known)
    return made[rows]


def _take_away(tops, terms, share):
    """Takes so many times some terms away from a dict to integers."""
    for row, count in terms.items():
        tops[row] = tops.get(row, 0) - share * count


def mix_of_form(form, *, way="joined"):
    """The mix with a form for a way."""
    if not isinstance(form, dict) or not all([_is_form_term(rows, form[rows]) for rows in form]):
        raise InvalidMix("a form is a dict from Lyndon tuples to ratios other than 0")
    need_one_of(way, WAYS)
    if any([sum([sum(row) for row in rows]) > MAX_FORMED for rows in form]):
        raise TooMany(MAX_FORMED)
    bottom = shared_bottom(list(form.values()))
    tops, made, known = {}, {}, {}
    for rows, (top, divisor) in form.items():
        _take_away(tops, _tuple_product(rows, way, made, known), -top * (bottom // divisor))
    return mix_of_tops(tops, bottom)


def _is_form_term(rows, ratio):
    """Whether these are a Lyndon tuple and a ratio other than 0."""
    if not isinstance(rows, tuple) or not all([is_lyndon(row) for row in rows]):
        return False
    words = [word_of(row) for row in rows]
    return words == sorted(words, reverse=True) and is_ratio(ratio) and ratio[0] != 0
