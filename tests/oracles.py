"""What tests make themselves to compare with: sums over listed chains, and mixes of fractions."""

from fractions import Fraction
from itertools import combinations, combinations_with_replacement

from risewords.word.mixes import Mix


def pair(number):
    """A number as a ratio of the package."""
    number = Fraction(number)
    return (number.numerator, number.denominator)


def listed(bound, size, slack=False):
    """All chains of so many integers below a bound, the greatest one ahead."""
    pick = combinations_with_replacement if slack else combinations
    return [members[::-1] for members in pick(range(1, bound), size)]


def share(row, members):
    """1 / (n1 ** s1 * n2 ** s2 * ..)."""
    bottom = 1
    for entry, member in zip(row, members):
        bottom *= member ** entry
    return Fraction(1, bottom)


def chain_sum(bound, row, slack=False):
    """The cut sum or the slack sum, by [0.10]."""
    return sum((share(row, members) for members in listed(bound, len(row), slack)), Fraction(0))


def mix_of(numbers):
    """The mix of a dict from rows to numbers; those of 0 are left out."""
    return Mix({row: pair(numbers[row]) for row in numbers if numbers[row]})


def value_of(bound, mix):
    """The sum of the cut sums of a mix, each times its number."""
    return sum((Fraction(*ratio) * chain_sum(bound, row) for row, ratio in mix), Fraction(0))


def led_on(mix, rule):
    """The sum of what a rule makes of each row, a dict from rows to numbers, times the row's number."""
    total = {}
    for row, ratio in mix:
        for made, number in rule(row).items():
            total[made] = total.get(made, 0) + Fraction(*ratio) * number
    return mix_of(total)



def solved(rows):
    """The rows, as fractions, so that each leads with 1 where all others have 0, and the places of these leads."""
    left, leads = [[Fraction(entry) for entry in row] for row in rows], []
    for place in range(len(left[0]) if left else 0):
        done = len(leads)
        first = next((at for at in range(done, len(left)) if left[at][place]), None)
        if first is not None:
            left[done], left[first] = left[first], left[done]
            left[done] = [entry / left[done][place] for entry in left[done]]
            for at, row in enumerate(left):
                if at != done and row[place]:
                    left[at] = [entry - row[place] * more for entry, more in zip(row, left[done])]
            leads.append(place)
    return left[:len(leads)], leads


def rank_of(rows):
    """The number of rows that do not hang on one another."""
    return len(solved(rows)[1])


def cleared(row, rows):
    """A row less multiples of rows that are solved, so that it is 0 where these lead."""
    rest = [Fraction(entry) for entry in row]
    for each, lead in zip(*rows):
        if rest[lead]:
            rest = [entry - rest[lead] * more for entry, more in zip(rest, each)]
    return rest
