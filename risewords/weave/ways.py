"""The three products of rows, with integers alone. Nothing that is passed is checked here."""


def row_product(one, other, way, known):
    """The product of two rows in a way, a dict from rows to integers that nobody changes.

    `known` is a dict that keeps the products that are made in this way, to take them again.
    """
    if not one or not other:
        return {one + other: 1}
    pair = (one, other) if one < other else (other, one)
    if pair not in known:
        known[pair] = _made_product(one, other, way, known)
    return known[pair]


def _made_product(one, other, way, known):
    """The product of two rows, neither of them (), of products of shorter rows."""
    made = {}
    if way == "woven":
        _put_letter(made, one, other, known)
        _put_letter(made, other, one, known)
        return made
    _put_entry(made, one[0], row_product(one[1:], other, way, known))
    _put_entry(made, other[0], row_product(one, other[1:], way, known))
    if way == "joined":
        _put_entry(made, one[0] + other[0], row_product(one[1:], other[1:], way, known))
    return made


def _put_entry(made, entry, rows):
    """Adds rows to what is made, each with an entry ahead."""
    for row, count in rows.items():
        longer = (entry, *row)
        made[longer] = made.get(longer, 0) + count


def _put_letter(made, one, other, known):
    """Adds the ways to weave that begin with the first letter of the word of `one`."""
    if one[0] == 1:
        _put_entry(made, 1, row_product(one[1:], other, "woven", known))
        return
    # The letter is x: ahead of a word it makes the first entry greater by 1.
    shorter = (one[0] - 1, *one[1:])
    for row, count in row_product(shorter, other, "woven", known).items():
        raised = (row[0] + 1, *row[1:])
        made[raised] = made.get(raised, 0) + count


def tops_product(one, other, way, known):
    """The product of two dicts from rows to integers."""
    total = {}
    for row, number in one.items():
        for column, worth in other.items():
            share = number * worth
            for made, count in row_product(row, column, way, known).items():
                total[made] = total.get(made, 0) + share * count
    return total
