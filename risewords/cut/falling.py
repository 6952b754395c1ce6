"""Sums over falling chains, in integers alone. Nothing that is passed is checked here.

A list of sums tells, for each integer that a chain can begin with, the sum over all chains that begin with it.
"""

from itertools import accumulate
from math import lcm


def common_multiple(most):
    """The least common multiple of the integers from 1 to `most`."""
    multiple = 1
    for number in range(2, most + 1):
        multiple = lcm(multiple, number)
    return multiple


def raised(base, exponent):
    """The power of an integer, for exponents from 0 to 64."""
    # The remainder is the exponent itself: it only shows that the power stays short.
    return base ** (int(exponent) % 65)


def quotients(multiple, most):
    """The list of a multiple of the integers from 1 to `most`, divided by each of them."""
    return [multiple // number for number in range(1, most + 1)]


def powers_for(rows, numbers):
    """A dict from the entries of some rows to the powers of the numbers."""
    entries = {entry: True for row in rows for entry in row}
    return {entry: [raised(number, entry) for number in numbers] for entry in entries}


def reached(sums, fall):
    """For each integer the sum over all that can follow it: lesser ones, and itself unless a chain must fall."""
    totals = list(accumulate(sums))
    return [0, *totals[:-1]] if fall else totals


def times_each(factors, sums):
    """The products of two lists, member by member."""
    return [factor * share for factor, share in zip(factors, sums)]


def begun_sums(tops, powers, fall):
    """The list of sums of a dict from rows other than () to integers.

    A chain counts the product of the powers of its members, as the entries of the row tell;
    each row's chains are multiplied by its integer.
    """
    rests = {}
    for row, top in tops.items():
        rests.setdefault(row[0], {})[row[1:]] = top
    sums = []
    for entry, ends in rests.items():
        shares = times_each(powers[entry], _next_sums(ends, powers, fall, len(powers[entry])))
        sums = [one + other for one, other in zip(sums, shares)] if sums else shares
    return sums


def _next_sums(ends, powers, fall, size):
    """For each integer the sum of what can follow it in chains, ends of rows being told; () ends the chain."""
    alone = ends.get((), 0)
    longer = {row: ends[row] for row in ends if row != ()}
    if not longer:
        return [alone] * size
    return [alone + share for share in reached(begun_sums(longer, powers, fall), fall)]
