"""Relations of two products, what follows from them, and the tests that bar the rest."""

from risewords.base.checks import need_between, need_one_of
from risewords.base.elimination import kernel_rows, making_ratios, product_sum
from risewords.base.exact import is_exact, is_whole, reduced, shared_bottom
from risewords.errors import InvalidOperation, TooMany
from risewords.weave.ways import row_product
from risewords.word.mixes import mix_of_tops, need_mix, tops_of
from risewords.word.rows import firm_rows, is_row, need_row

MOST_WEIGHT = 8
MAX_JOINT = 12
KINDS = ("all", "firm")


def relation(one, other):
    """The relation of two rows: their joined product less their woven one."""
    need_row(one)
    need_row(other)
    if not _are_related(one, other):
        raise InvalidOperation("a firm row or (1), and a firm row, both other than (), are needed")
    if sum(one) + sum(other) > MAX_JOINT:
        raise TooMany(MAX_JOINT)
    return mix_of_tops(_relation_tops(one, other, {"joined": {}, "woven": {}}), 1)


def _are_related(one, other):
    """Whether two rows have a relation."""
    if one == () or other == ():
        return False
    return (one == (1,) or one[0] > 1) and other[0] > 1


def _relation_tops(one, other, known):
    """The relation of two rows, a dict from rows to integers, perhaps 0; `known` keeps products by their way."""
    together = row_product(one, other, "joined", known["joined"])
    tops = {row: together[row] for row in together}
    for row, count in row_product(one, other, "woven", known["woven"]).items():
        tops[row] = tops.get(row, 0) - count
    return tops


def pairs_of(weight, *, kind="all"):
    """The tuple of the pairs of a weight."""
    need_between(weight, 0, MOST_WEIGHT)
    need_one_of(kind, KINDS)
    found = []
    less = weight - 1
    # The firm row of the weight 0 is (), which makes no pair.
    if kind == "all" and less > 0:
        found = [((1,), row) for row in firm_rows(less)]
    for light in range(2, weight // 2 + 1):
        heavy = weight - light
        others = list(firm_rows(heavy))
        for one in firm_rows(light):
            found.extend([(one, other) for other in others if light < heavy or one <= other])
    return tuple(found)


def _table(weight, kind):
    """The relations of the pairs of a weight, lists of integers for its firm rows."""
    rows = list(firm_rows(weight))
    known = {"joined": {}, "woven": {}}
    table = []
    for one, other in pairs_of(weight, kind=kind):
        tops = _relation_tops(one, other, known)
        table.append([tops.get(row, 0) for row in rows])
    return table


def bar_rows(weight, *, kind="all"):
    """The echelon whose rows make all tests of a weight."""
    need_between(weight, 0, MOST_WEIGHT)
    need_one_of(kind, KINDS)
    return _tests(weight, _table(weight, kind))


def _tests(weight, table):
    """The echelon of the tests for the relations of a weight."""
    # Where there are no relations, a row of zeros asks for nothing, too.
    return kernel_rows(table or [[0] * len(list(firm_rows(weight)))])


def left_count(weight, *, kind="all"):
    """How many firm rows of a weight are left, up to what follows."""
    return len(bar_rows(weight, kind=kind))


def does_follow(mix, *, kind="all"):
    """Whether the mix follows from the pairs of a kind."""
    _need_level(mix, kind)
    if not mix:
        return True
    numbers, _ = _numbers_of(mix)
    tests = bar_rows(mix.top_weight, kind=kind)
    return all([product_sum(test, numbers) == 0 for test in tests])


def _need_level(mix, kind):
    """Refuses what is no mix, no kind, no mix of firm rows of one weight, or one of a weight above 8."""
    need_mix(mix)
    need_one_of(kind, KINDS)
    if not mix.is_firm_mix or not mix.is_level:
        raise InvalidOperation("a mix of firm rows of one weight is needed")
    if mix and mix.top_weight > MOST_WEIGHT:
        raise TooMany(MOST_WEIGHT)


def _numbers_of(mix):
    """The list of the numbers of a level mix other than zero for the firm rows of its weight, times a bottom; it."""
    tops, bottom = tops_of(mix)
    weight = mix.top_weight
    return [tops.get(row, 0) for row in firm_rows(weight)], bottom


def follow_paper(mix, *, kind="all"):
    """A paper about a mix: relations that make it, or a test that bars it."""
    _need_level(mix, kind)
    if not mix:
        return ("sum", ())
    weight = mix.top_weight
    table = _table(weight, kind)
    numbers, bottom = _numbers_of(mix)
    ratios = making_ratios(table, numbers)
    if ratios is not None:
        shares = [reduced(ratio[0], ratio[1] * bottom) for ratio in ratios]
        pairs = pairs_of(weight, kind=kind)
        return ("sum", tuple([(pair, share) for pair, share in zip(pairs, shares) if share[0] != 0]))
    tests = [test for test in _tests(weight, table) if product_sum(test, numbers) != 0]
    return ("test", tests[0])


def is_follow_paper(mix, value, *, kind="all"):
    """Whether the value is a paper about a mix."""
    _need_level(mix, kind)
    if not isinstance(value, tuple) or len(value) != 2 or not isinstance(value[1], tuple):
        return False
    if value[0] == "sum":
        return _is_right_sum(mix, value[1], kind)
    return value[0] == "test" and bool(mix) and _is_right_test(mix, value[1], kind)


def _is_right_sum(mix, parts, kind):
    """Whether these are different pairs of one weight with ratios that make the mix of their relations."""
    if not all([_is_part(part) for part in parts]):
        return False
    shares = {part[0]: part[1] for part in parts}
    weights = [sum(one) + sum(other) for one, other in shares]
    if mix:
        weights.append(mix.top_weight)
    if len(shares) != len(parts) or not all([weight == weights[0] for weight in weights]):
        return False
    return not weights or _is_sum_of(mix, shares, weights[0], kind)


def _is_sum_of(mix, shares, weight, kind):
    """Whether a dict from pairs to ratios has only pairs of the weight, and its relations make the mix."""
    if weight > MOST_WEIGHT:
        return False
    pairs = pairs_of(weight, kind=kind)
    if not all([pair in pairs for pair in shares]):
        return False
    bottom = shared_bottom(list(shares.values()))
    known, total = {"joined": {}, "woven": {}}, {}
    for (one, other), ratio in shares.items():
        share = ratio[0] * (bottom // ratio[1])
        for row, top in _relation_tops(one, other, known).items():
            total[row] = total.get(row, 0) + share * top
    return mix_of_tops(total, bottom) == mix


def _is_part(part):
    """Whether the value is a pair of two rows and a ratio other than 0, of integers of any size."""
    if not isinstance(part, tuple) or len(part) != 2 or not is_exact(part[1]) or part[1][0] == 0:
        return False
    pair = part[0]
    return isinstance(pair, tuple) and len(pair) == 2 and is_row(pair[0]) and is_row(pair[1])


def _is_right_test(mix, test, kind):
    """Whether this is a row of integers that is 0 on all relations of the weight, and not on the mix."""
    numbers, _ = _numbers_of(mix)
    if len(test) != len(numbers) or not all([is_whole(entry) for entry in test]):
        return False
    table = _table(mix.top_weight, kind)
    return product_sum(numbers, test) != 0 and all([product_sum(row, test) == 0 for row in table])
