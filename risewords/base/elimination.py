"""Elimination in rows of integers, without fractions. Nothing that is passed is checked here."""

from risewords.base.exact import reduced, shared_divisor


def eliminated(rows):
    """Rows with the same sums of multiples, and the ascending columns of their leads.

    All leads are one integer, each alone in its column. The rows that are passed have one length.
    """
    left = [list(row) for row in rows]
    leads = []
    former = 1
    for column in range(len(left[0]) if left else 0):
        done = len(leads)
        found = [at for at in range(done, len(left)) if left[at][column] != 0]
        if found:
            left[done], left[found[0]] = left[found[0]], left[done]
            former = _clear_column(left, done, column, former)
            leads.append(column)
    return left[:len(leads)], leads


def _clear_column(rows, at, column, former):
    """Makes the column 0 in all rows but one; returns the lead of this one.

    The integers are determinants of parts of the first table, so the former lead divides what
    is made: that keeps them short.
    """
    pivot = rows[at]
    lead = pivot[column]
    for index in range(len(rows)):
        if index != at:
            first = rows[index][column]
            rows[index] = [(lead * entry - first * taken) // former for entry, taken in zip(rows[index], pivot)]
    return lead


def primitive(row):
    """The tuple of a row other than zeros without a common divisor, its lead above 0."""
    divisor = shared_divisor(row)
    if [entry for entry in row if entry != 0][0] < 0:
        divisor = -divisor
    return tuple([entry // divisor for entry in row])


def echelon(rows):
    """The echelon of a lot of rows of one length, a tuple of tuples."""
    solved, _ = eliminated(rows)
    return tuple([primitive(row) for row in solved])


def kernel_rows(rows):
    """The echelon of all rows whose products with each of the rows, at least one, add up to 0."""
    width = len(rows[0])
    # From the other end: then a row of the kernel leads at a column that no other one has.
    solved, leads = eliminated([row[::-1] for row in rows])
    lead = solved[0][leads[0]] if leads else 1
    found = []
    for free in range(width - 1, -1, -1):
        if free not in leads:
            row = [0] * width
            row[free] = lead
            for at, column in enumerate(leads):
                row[column] = -solved[at][free]
            found.append(primitive(row[::-1]))
    return tuple(found)


def making_ratios(rows, numbers):
    """The tuple of ratios with which the rows, each times its own, add up to the numbers, or None."""
    many = len(rows)
    columns = [[row[at] for row in rows] + [number] for at, number in enumerate(numbers)]
    solved, leads = eliminated(columns)
    if many in leads:
        return None
    ratios = [(0, 1)] * many
    for row, lead in zip(solved, leads):
        ratios[lead] = reduced(row[many], row[lead])
    return tuple(ratios)


def product_sum(one, other):
    """The sum of the products of two rows, entry by entry."""
    return sum([left * right for left, right in zip(one, other)])
