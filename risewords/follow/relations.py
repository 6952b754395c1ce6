"""Relations of two products, what follows from them, and the tests that bar the rest."""

from risewords.base.checks import need_between, need_one_of
from risewords.base.exact import is_exact, is_whole, reduced, shared_bottom
from risewords.errors import InvalidOperation, TooMany
from risewords.follow.barring import barring_rows, is_made, making_shares, rank_of
from risewords.weave.ways import row_product
from risewords.word.mixes import mix_of_tops, need_mix, tops_of
from risewords.word.rows import dual_row, firm_rows, is_row, need_row

MOST_WEIGHT = 8
MAX_JOINT = 12
MOST_LIGHT = 3
LIGHTEST = ((1,), (2,), (3,))
KINDS = ("all", "firm")


def relation(one, other):
    """The relation of two rows: their joined product less their woven one."""
    need_row(one)
    need_row(other)
    if not _are_related(one, other):
        raise InvalidOperation("a firm row or (1), and a firm row, both other than (), are needed")
    if sum(one) + sum(other) > MAX_JOINT:
        raise TooMany(MAX_JOINT)
    return mix_of_tops(_relation_tops(one, other, {"joined": {}, "woven": {}}), 1)


def _are_related(one, other):
    """Whether two rows have a relation."""
    if one == () or other == ():
        return False
    return (one == (1,) or one[0] > 1) and other[0] > 1


def _relation_tops(one, other, known):
    """The relation of two rows, a dict from rows to integers, perhaps 0; `known` keeps products by their way."""
    together = row_product(one, other, "joined", known["joined"])
    tops = {row: together[row] for row in together}
    for row, count in row_product(one, other, "woven", known["woven"]).items():
        tops[row] = tops.get(row, 0) - count
    return tops


def pairs_of(weight, *, kind="all"):
    """The tuple of the pairs of a weight."""
    need_between(weight, 0, MOST_WEIGHT)
    need_one_of(kind, KINDS)
    found = []
    less = weight - 1
    # The firm row of the weight 0 is (), which makes no pair.
    if kind == "all" and less > 0:
        found = [((1,), row) for row in firm_rows(less)]
    for light in range(2, weight // 2 + 1):
        heavy = weight - light
        others = list(firm_rows(heavy))
        for one in firm_rows(light):
            found.extend([(one, other) for other in others if light < heavy or one <= other])
    return tuple(found)


def _spanning_pairs(weight, kind):
    """The list of some pairs of a weight and a kind of whose relations all others are sums of multiples."""
    pairs = pairs_of(weight, kind=kind)
    # To the weight 8 the relations of the lightest rows are enough.
    return [pair for pair in pairs if kind == "firm" or sum(pair[0]) <= MOST_LIGHT]


def _testing_pairs(weight, kind):
    """The list of some pairs whose relations, where rows and their duals share columns, are enough."""
    pairs = _spanning_pairs(weight, kind)
    if kind == "firm":
        return pairs
    # Of (3) and its dual one is enough, and (1) has one relation with a row and with its dual.
    return [pair for pair in pairs if pair[0] in LIGHTEST and (pair[0] != (1,) or pair[1] <= dual_row(pair[1]))]


def _relation_rows(pairs, columns):
    """The list of the relations of some pairs, dicts from the columns of the rows to integers."""
    known = {"joined": {}, "woven": {}}
    return [_in_columns(_relation_tops(one, other, known), columns) for one, other in pairs]


def _in_columns(tops, columns):
    """A dict from rows to integers, those of one column added up. Rows that are not firm have 0."""
    found = {}
    for row, top in tops.items():
        if top != 0:
            column = columns[row]
            found[column] = found.get(column, 0) + top
    return found


def _shared_columns(weight, kind):
    """A dict from the firm rows of a weight to columns, and the number of these.

    A row less its dual follows from all pairs (stage 13). So each test for them has one integer for
    both rows, and they share a column.
    """
    columns = {}
    many = 0
    for row in firm_rows(weight):
        if row not in columns:
            columns[row] = many
            if kind == "all":
                columns[dual_row(row)] = many
            many += 1
    return columns, many


def bar_rows(weight, *, kind="all"):
    """The echelon whose rows make all tests of a weight."""
    pairs = _testing_pairs(weight, kind)
    columns, many = _shared_columns(weight, kind)
    places = [columns[row] for row in firm_rows(weight)]
    tests = barring_rows(_relation_rows(pairs, columns), many)
    return tuple([tuple([test[place] for place in places]) for test in tests])


def left_count(weight, *, kind="all"):
    """How many firm rows of a weight are left, up to what follows."""
    pairs = _testing_pairs(weight, kind)
    columns, many = _shared_columns(weight, kind)
    return many - rank_of(_relation_rows(pairs, columns), many)


def does_follow(mix, *, kind="all"):
    """Whether the mix follows from the pairs of a kind."""
    _need_level(mix, kind)
    if not mix:
        return True
    weight = mix.top_weight
    columns, many = _shared_columns(weight, kind)
    tops, _ = tops_of(mix)
    return is_made(_in_columns(tops, columns), _relation_rows(_testing_pairs(weight, kind), columns), many)


def _need_level(mix, kind):
    """Refuses what is no mix, no kind, no mix of firm rows of one weight, or one of a weight above 8."""
    need_mix(mix)
    need_one_of(kind, KINDS)
    if not mix.is_firm_mix or not mix.is_level:
        raise InvalidOperation("a mix of firm rows of one weight is needed")
    if mix and mix.top_weight > MOST_WEIGHT:
        raise TooMany(MOST_WEIGHT)


def follow_paper(mix, *, kind="all"):
    """A paper about a mix: relations that make it, or a test that bars it."""
    _need_level(mix, kind)
    if not mix:
        return ("sum", ())
    weight = mix.top_weight
    pairs = _spanning_pairs(weight, kind)
    columns = _columns(weight)
    tops, bottom = tops_of(mix)
    shares = making_shares(_in_columns(tops, columns), _relation_rows(pairs, columns), len(columns))
    if shares is None:
        tests = [test for test in bar_rows(weight, kind=kind) if _test_sum(tops, columns, test) != 0]
        return ("test", tests[0])
    ratios = [reduced(share[0], share[1] * bottom) for share in shares]
    return ("sum", tuple([(pair, ratio) for pair, ratio in zip(pairs, ratios) if ratio[0] != 0]))


def _columns(weight):
    """The dict from the firm rows of a weight to their places in tests."""
    return {row: place for place, row in enumerate(firm_rows(weight))}


def _test_sum(tops, columns, test):
    """The sum of the products of the integers of rows with those of a test."""
    return sum([top * test[columns[row]] for row, top in tops.items() if top != 0])


def is_follow_paper(mix, value, *, kind="all"):
    """Whether the value is a paper about a mix."""
    _need_level(mix, kind)
    if not isinstance(value, tuple) or len(value) != 2 or not isinstance(value[1], tuple):
        return False
    if value[0] == "sum":
        return _is_right_sum(mix, value[1], kind)
    return value[0] == "test" and bool(mix) and _is_right_test(mix, value[1], kind)


def _is_right_sum(mix, parts, kind):
    """Whether these are different pairs of one weight with ratios that make the mix of their relations."""
    if not all([_is_part(part) for part in parts]):
        return False
    shares = {part[0]: part[1] for part in parts}
    weights = [sum(one) + sum(other) for one, other in shares]
    if mix:
        weights.append(mix.top_weight)
    if len(shares) != len(parts):
        return False
    return not weights or _is_sum_of(mix, shares, weights[0], kind)


def _is_sum_of(mix, shares, weight, kind):
    """Whether a dict from pairs to ratios has only pairs of the weight, and its relations make the mix."""
    if weight > MOST_WEIGHT:
        return False
    pairs = pairs_of(weight, kind=kind)
    if not all([pair in pairs for pair in shares]):
        return False
    bottom = shared_bottom(list(shares.values()))
    known, total = {"joined": {}, "woven": {}}, {}
    for (one, other), ratio in shares.items():
        share = ratio[0] * (bottom // ratio[1])
        for row, top in _relation_tops(one, other, known).items():
            total[row] = total.get(row, 0) + share * top
    return mix_of_tops(total, bottom) == mix


def _is_part(part):
    """Whether the value is a pair of two rows and a ratio other than 0, of integers of any size."""
    if not isinstance(part, tuple) or len(part) != 2 or not is_exact(part[1]) or part[1][0] == 0:
        return False
    pair = part[0]
    return isinstance(pair, tuple) and len(pair) == 2 and is_row(pair[0]) and is_row(pair[1])


def _is_right_test(mix, test, kind):
    """Whether this is a row of integers that is 0 on all relations of the weight, and not on the mix."""
    weight = mix.top_weight
    columns = _columns(weight)
    if len(test) != len(columns) or not all([is_whole(entry) for entry in test]):
        return False
    tops, _ = tops_of(mix)
    if _test_sum(tops, columns, test) == 0:
        return False
    known = {"joined": {}, "woven": {}}
    pairs = _spanning_pairs(weight, kind)
    return all([_test_sum(_relation_tops(one, other, known), columns, test) == 0 for one, other in pairs])
