"""Sums of numbers of rows over joined products. Nothing that is passed is checked here."""

from risewords.weave.lyndon import lyndon_rows
from risewords.weave.ways import row_product
from risewords.word.rows import rows_of


def joined_sums(weight, numbers):
    """Lists of sums of what rows of a weight have, over joined products of two rows: all are 0 if these are.

    Each row is a polynomial in Lyndon rows by joined products. So products with a Lyndon row are
    enough, and of the Lyndon rows that a product has, one has at most half of the weight.
    """
    size = len(list(numbers.values())[0])
    known = {}
    found = []
    for light in range(1, weight // 2 + 1):
        heavy = weight - light
        others = list(rows_of(heavy))
        for one in lyndon_rows(light):
            found.extend([_product_sums(row_product(one, other, "joined", known), numbers, size) for other in others])
    return found


def _product_sums(tops, numbers, size):
    """The sums of the lists of some rows, each multiplied by an integer."""
    sums = [0] * size
    for row, top in tops.items():
        sums = [total + top * number for total, number in zip(sums, numbers[row])]
    return sums
