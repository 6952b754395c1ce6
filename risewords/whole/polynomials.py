"""Mixes as polynomials in the row (1), with firm mixes for parts, by joined and by woven products."""

from math import perm

from risewords.base.checks import need_between, need_one_of
from risewords.base.exact import shared_bottom
from risewords.errors import InvalidMix, TooMany
from risewords.weave.ways import row_product, tops_product
from risewords.word.mixes import Mix, mix_of_tops
from risewords.word.rows import need_row

MAX_WHOLE = 8
WHOLE_WAYS = ("joined", "woven")
# 8!, by which all polynomials of rows and all gamma mixes become integers.
BOTTOM = 40320


def made_whole(row, *, way):
    """The whole polynomial of a row by a way."""
    need_row(row)
    need_one_of(way, WHOLE_WAYS)
    _need_light(row)
    return _as_parts(_row_whole(row, way, {}, {}), BOTTOM)


def _need_light(row):
    """Refuses a row with a weight above 8."""
    if sum(row) > MAX_WHOLE:
        raise TooMany(MAX_WHOLE)


def _as_parts(whole, bottom):
    """The tuple of the mixes of dicts from rows to integers, divided by an integer, up to the last one other than 0."""
    parts = [mix_of_tops(tops, bottom) for tops in whole]
    while parts and not parts[-1]:
        parts.pop()
    return tuple(parts)


def _row_whole(row, way, made, known):
    """The polynomial of a row, a list of dicts from rows to integers, times 8!; `made` keeps those that are made."""
    if row == () or row[0] > 1:
        return [{row: BOTTOM}]
    if row not in made:
        # (1) and the row less its first 1 make the row, once for each 1 ahead, and rows with fewer 1 ahead.
        shorter = row[1:]
        ways = row_product((1,), shorter, way, known)
        whole = [{}] + [_divided(tops, 1) for tops in _row_whole(shorter, way, made, known)]
        for other, count in ways.items():
            if other != row:
                _take_away(whole, _row_whole(other, way, made, known), count)
        made[row] = [_divided(tops, ways[row]) for tops in whole]
    return made[row]


def _take_away(whole, other, count):
    """Takes a polynomial, so many times, away from one with at least as many parts."""
    for tops, taken in zip(whole, other):
        for row, top in taken.items():
            tops[row] = tops.get(row, 0) - count * top


def _divided(tops, divisor):
    """The dict from rows to integers, divided, without those that are 0."""
    return {row: top // divisor for row, top in tops.items() if top != 0}


def mix_of_whole(parts, *, way):
    """The mix that a whole polynomial tells by a way."""
    _need_parts(parts)
    need_one_of(way, WHOLE_WAYS)
    _need_light_parts(parts)
    whole, bottom = _parts_tops(parts)
    total, known = {}, {}
    for tops in whole[::-1]:
        total = tops_product(total, {(1,): 1}, way, known)
        for row, top in tops.items():
            total[row] = total.get(row, 0) + top
    return mix_of_tops(total, bottom)


def _need_parts(parts):
    """Refuses what is no tuple of at most nine firm mixes."""
    if not isinstance(parts, tuple) or len(parts) > MAX_WHOLE + 1:
        raise InvalidMix("a tuple of at most nine firm mixes is needed")
    if not all([isinstance(part, Mix) and part.is_firm_mix for part in parts]):
        raise InvalidMix("the parts of a polynomial are firm mixes")


def _need_light_parts(parts):
    """Refuses a polynomial with a row whose weight is above 8 together with the index of its part."""
    if any([bool(part) and index + part.top_weight > MAX_WHOLE for index, part in enumerate(parts)]):
        raise TooMany(MAX_WHOLE)


def _parts_tops(parts):
    """The parts as dicts from rows to integers, times one bottom; the bottom."""
    bottom = shared_bottom([ratio for part in parts for _, ratio in part])
    return [{row: ratio[0] * (bottom // ratio[1]) for row, ratio in part} for part in parts], bottom


def gamma_mix(number):
    """The gamma mix of a number."""
    need_between(number, 0, MAX_WHOLE)
    return mix_of_tops(_gammas(number)[number], BOTTOM)


def _gammas(most):
    """The list of the gamma mixes of 0 to a number, dicts from rows to integers, times 8!."""
    found = [{(): BOTTOM}]
    known = {}
    for number in range(1, most + 1):
        total = {}
        for entry in range(2, number + 1):
            sign = -1 if entry % 2 else 1
            for row, top in tops_product({(entry,): sign}, found[number - entry], "joined", known).items():
                total[row] = total.get(row, 0) + top
        found.append(_divided(total, number))
    return found


def led_whole(parts):
    """The polynomial, led over."""
    _need_parts(parts)
    _need_light_parts(parts)
    whole, bottom = _parts_tops(parts)
    return _as_parts(_led_over(whole), bottom * BOTTOM)


def _led_over(whole):
    """A polynomial of dicts from rows to integers, led over, times 8!."""
    gammas, known = _gammas(max(len(whole) - 1, 0)), {}
    led = []
    for index in range(len(whole)):
        total = {}
        for power in range(index, len(whole)):
            share = perm(power, power - index)
            for row, top in tops_product(whole[power], gammas[power - index], "joined", known).items():
                total[row] = total.get(row, 0) + share * top
        led.append(total)
    return led


def whole_gap(row):
    """The gap of a row: its woven polynomial less its joined one, led over."""
    need_row(row)
    _need_light(row)
    gap = [{each: top * BOTTOM for each, top in tops.items()} for tops in _row_whole(row, "woven", {}, {})]
    _take_away(gap, _led_over(_row_whole(row, "joined", {}, {})), 1)
    return _as_parts(gap, BOTTOM * BOTTOM)
