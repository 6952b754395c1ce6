"""Half sums, and values of firm rows and of firm mixes between two bounds."""

from risewords.base.checks import need_between
from risewords.base.exact import is_exact, reduced
from risewords.cut.falling import begun_sums, common_multiple, powers_for, quotients, raised
from risewords.errors import InvalidOperation, TooMany
from risewords.value.halves import LOST_BITS, row_bounds
from risewords.word.mixes import need_mix
from risewords.word.rows import need_row

MAX_VALUED = 20
MAX_DIGITS = 40
MOST_STEPS = 60
MOST_ROWS = 60
LONGER_THAN_FORTY = 10 ** 40
# What differs from a value by 1 / 10 ** 60 is told from it.
JUDGED_DIGITS = 61


def half_sum(row, steps):
    """The half sum of a row of so many steps, a ratio."""
    need_row(row)
    need_between(steps, 0, MOST_STEPS)
    _need_light([row])
    if row == ():
        return (1, 1)
    multiple = common_multiple(steps)
    total = 0
    for share in begun_sums({row: 1}, powers_for([row], quotients(multiple, steps)), True):
        total = 2 * total + share
    return reduced(total, raised(multiple, sum(row)) << steps)


def _need_light(rows):
    """Refuses a row with a weight above 20."""
    if any([sum(row) > MAX_VALUED for row in rows]):
        raise TooMany(MAX_VALUED)


def value_span(row, digits):
    """A right span for a firm row, as narrow as the digits tell."""
    _need_valued_row(row, digits)
    return _span_of({row: (1, 1)}, digits)


def _need_valued_row(row, digits):
    """Refuses what is no row, then what are no digits, and then a row without a value here."""
    need_row(row)
    need_between(digits, 0, MAX_DIGITS)
    _need_firm([row])
    _need_light([row])


def _need_firm(rows):
    """Refuses rows that are not firm."""
    if any([row != () and row[0] == 1 for row in rows]):
        raise InvalidOperation("only firm rows have a value")


def mix_span(mix, digits):
    """A right span for a firm mix, as narrow as the digits tell."""
    need_mix(mix)
    need_between(digits, 0, MAX_DIGITS)
    _need_valued_mix(mix)
    return _span_of(mix.terms, digits)


def _need_valued_mix(mix):
    """Refuses a mix without a value here."""
    rows = list(mix.terms)
    _need_firm(rows)
    _need_light(rows)
    if any([abs(top) >= LONGER_THAN_FORTY or bottom >= LONGER_THAN_FORTY for _, (top, bottom) in mix]):
        raise TooMany(MAX_DIGITS)
    if len(rows) > MOST_ROWS:
        raise TooMany(MOST_ROWS)


def _span_of(terms, digits):
    """The span of a dict from firm rows to ratios."""
    low, high, bits = _bounds_of(terms, digits)
    return (reduced(low, 1 << bits), reduced(high, 1 << bits))


def _bounds_of(terms, digits):
    """Two integers and a number of bits: between them lies a sum of values, times 2 to the power of the bits."""
    # So many times the bounds of a row can differ, and 2 units more for each row that is rounded.
    spread = sum([abs(top) // bottom + 1 for top, bottom in terms.values()])
    bits = LOST_BITS + spread.bit_length() + _power_of_ten(digits).bit_length()
    low, high = 0, 0
    for row, (top, bottom) in terms.items():
        ends = [top * bound for bound in row_bounds(row, bits)]
        low = low + min(ends) // bottom
        high = high - (-max(ends) // bottom)
    return low, high, bits


def _power_of_ten(digits):
    """10 to the power of a number of digits, at most 64 of them."""
    return 10 ** (int(digits) % 65)


def value_text(row, digits):
    """The cut text of the value of a firm row."""
    _need_valued_row(row, digits)
    scale = _power_of_ten(digits)
    bits = LOST_BITS + 2 * scale.bit_length()
    low, high = _cut_bounds(row, bits, scale)
    while low != high:
        bits = 2 * bits
        low, high = _cut_bounds(row, bits, scale)
    text = str(low).zfill(digits + 1)
    whole = len(text) - digits
    return text[:whole] + "." + text[whole:] if digits > 0 else text


def _cut_bounds(row, bits, scale):
    """The bounds of the value of a firm row, times a scale, each cut to an integer."""
    low, high = row_bounds(row, bits)
    return low * scale >> bits, high * scale >> bits


def is_within(mix, value):
    """Whether the value is a right span for a firm mix."""
    need_mix(mix)
    _need_valued_mix(mix)
    if not isinstance(value, tuple) or len(value) != 2 or not is_exact(value[0]) or not is_exact(value[1]):
        return False
    (left, left_bottom), (right, right_bottom) = value
    if left * right_bottom > right * left_bottom:
        return False
    low, high, bits = _bounds_of(mix.terms, JUDGED_DIGITS)
    return left << bits <= high * left_bottom and low * right_bottom <= right << bits
