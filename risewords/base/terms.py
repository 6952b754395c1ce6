"""Terms: dicts from anything that has an order to ratios of any size. Nothing that is passed is checked here."""

from risewords.base.exact import added, multiplied, opposite, reduced, shared_bottom


def filled_terms(terms):
    """The same terms, ascending, without ratios of 0."""
    return {key: terms[key] for key in sorted(terms) if terms[key][0] != 0}


def added_terms(one, other):
    """The sum of two terms; ratios of 0 can remain."""
    total = {key: one[key] for key in one}
    for key in other:
        total[key] = added(total[key], other[key]) if key in total else other[key]
    return total


def opposite_terms(terms):
    """The same terms with the other signs."""
    return {key: opposite(terms[key]) for key in terms}


def multiplied_terms(terms, ratio):
    """The terms, each multiplied by a ratio."""
    return {key: multiplied(terms[key], ratio) for key in terms}


def tops_of_terms(terms):
    """A dict to integers, and the integer by which all of them are to be divided."""
    bottom = shared_bottom(list(terms.values()))
    return {key: terms[key][0] * (bottom // terms[key][1]) for key in terms}, bottom


def terms_of_tops(tops, bottom):
    """The terms of a dict to integers, each divided by an integer."""
    # Many terms of products and of blockings have one integer.
    ratios = {}
    for top in tops.values():
        if top not in ratios:
            ratios[top] = reduced(top, bottom)
    return {key: ratios[tops[key]] for key in tops}
