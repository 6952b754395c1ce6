"""Cut sums and slack sums of rows, and the values of mixes at a bound."""

from math import lcm

from risewords.base.checks import need_between
from risewords.base.exact import reduced
from risewords.cut.falling import begun_sums, common_multiple, powers_for, quotients, raised
from risewords.word.mixes import mix_of_tops, need_mix, tops_of
from risewords.word.rows import joinings, need_row

MAX_BOUND = 200
MAX_PARTED = 12


def cut_sum(bound, row):
    """The cut sum of a row for a bound, a ratio."""
    need_between(bound, 1, MAX_BOUND)
    need_row(row)
    return _rows_sum(bound, {row: 1}, 1, True)


def slack_sum(bound, row):
    """The slack sum of a row for a bound, a ratio."""
    need_between(bound, 1, MAX_BOUND)
    need_row(row)
    return _rows_sum(bound, {row: 1}, 1, False)


def cut_value(bound, mix):
    """The sum of the cut sums of the rows of a mix, each times its number, a ratio."""
    need_between(bound, 1, MAX_BOUND)
    need_mix(mix)
    tops, bottom = tops_of(mix)
    return _rows_sum(bound, tops, bottom, True)


def _rows_sum(bound, tops, bottom, fall):
    """The sum of the sums of rows, each times an integer, divided by an integer."""
    multiple = common_multiple(bound - 1)
    weight = max([sum(row) for row in tops], default=0)
    # Each row of less weight counts as much more, so that all of them have one bottom.
    raised_tops = {row: top * raised(multiple, weight - sum(row)) for row, top in tops.items() if row != ()}
    powers = powers_for(list(raised_tops), quotients(multiple, bound - 1))
    scale = raised(multiple, weight)
    total = sum(begun_sums(raised_tops, powers, fall)) + tops.get((), 0) * scale
    return reduced(total, bottom * scale)


def slack_mix(row):
    """The mix whose value at each bound is the slack sum of the row."""
    return mix_of_tops({joining: 1 for joining in joinings(row)}, 1)


def strict_mix(row):
    """The mix whose slack sums, each times its number, add up to the cut sum of the row."""
    return mix_of_tops({joining: _sign(len(row) - len(joining)) for joining in joinings(row)}, 1)


def _sign(many):
    """-1 to the power of an integer of at least 0."""
    return -1 if many % 2 else 1


def each_cut_sum(row):
    """Yields the cut sums of a row for all bounds from 1 to 200."""
    need_row(row)
    ratios = _all_cut_sums(row)
    for ratio in ratios:
        yield ratio


def _all_cut_sums(row):
    """The list of the cut sums of a row for all bounds, ascending."""
    if row == ():
        return [(1, 1)] * MAX_BOUND
    multiple = common_multiple(MAX_BOUND - 1)
    powers = powers_for([row], quotients(multiple, MAX_BOUND - 1))
    found = [(0, 1)]
    total = 0
    least = 1
    for number, share in enumerate(begun_sums({row: 1}, powers, True), 1):
        total = total + share
        # The sum has a bottom of integers to `number` alone: what is shared is taken off ahead.
        least = lcm(least, number)
        spare = raised(multiple // least, sum(row))
        found.append(reduced(total // spare, raised(least, sum(row))))
    return found
