"""What leads from laid to joined products and back: blockings of rows, cuts, and what undoes them."""

from math import comb, factorial

from risewords.base.checks import need_one_of
from risewords.errors import TooMany
from risewords.word.mixes import mix_of_tops, need_mix, tops_of
from risewords.word.rows import joinings, need_row

MOST_ENTRIES = 12
UNDONE_WAYS = ("laid", "joined")


def led_forth(mix):
    """The mix, led forth."""
    return _led(mix, [1] * MOST_ENTRIES)


def led_back(mix):
    """The mix, led back."""
    return _led(mix, [(-1 if size % 2 else 1) * factorial(size) for size in range(MOST_ENTRIES)])


def _led(mix, numbers):
    """The sum over the blockings of all rows; a block of n entries counts numbers[n - 1] / n!."""
    _need_short_mix(mix)
    tops, bottom = tops_of(mix)
    most = max([len(row) for row in tops], default=0)
    counts = _blocking_counts(most, numbers)
    total = {}
    for row, top in tops.items():
        share = top * (factorial(most) // factorial(len(row)))
        for told, count in zip(joinings(row), counts[len(row)]):
            total[told] = total.get(told, 0) + share * count
    return mix_of_tops(total, bottom * factorial(most))


def _blocking_counts(most, numbers):
    """For each k to a greatest one: k! times what the blockings of a row of k entries count.

    They ascend as the joinings do that they tell: shorter first blocks tell lesser rows.
    """
    counts = [[1]]
    for size in range(1, most + 1):
        found = []
        for block in range(1, size + 1):
            # k! is the factor of the rest, times the lots of the block among k entries, times its n!.
            share = comb(size, block) * numbers[block - 1]
            found.extend([share * count for count in counts[size - block]])
        counts.append(found)
    return counts


def _need_short_mix(mix):
    """Refuses what is no mix, and then a mix with a row of more than twelve entries."""
    need_mix(mix)
    if any([len(row) > MOST_ENTRIES for row, _ in mix]):
        raise TooMany(MOST_ENTRIES)


def cuts(row):
    """The tuple of all pairs of a front and a rear of a row, the shortest front first."""
    need_row(row)
    if len(row) > MOST_ENTRIES:
        raise TooMany(MOST_ENTRIES)
    return tuple([(row[:place], row[place:]) for place in range(len(row) + 1)])


def mix_cuts(mix):
    """The dict from all pairs of a front and a rear of the rows of a mix to their ratios."""
    _need_short_mix(mix)
    found = {}
    for row, ratio in mix:
        for pair in cuts(row):
            found[pair] = ratio
    return {pair: found[pair] for pair in sorted(found)}


def undone(mix, *, way="joined"):
    """The mix, undone for laid or for joined products."""
    need_mix(mix)
    need_one_of(way, UNDONE_WAYS)
    _need_short_mix(mix)
    tops, bottom = tops_of(mix)
    total = {}
    for row, top in tops.items():
        share = -top if len(row) % 2 else top
        turned = row[::-1]
        rows = joinings(turned) if way == "joined" else (turned,)
        for told in rows:
            total[told] = total.get(told, 0) + share
    return mix_of_tops(total, bottom)
