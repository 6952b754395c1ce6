"""[8.1] to [8.7] and the functions of risewords.cut.chains."""

from fractions import Fraction
from itertools import islice, product
from math import comb
from time import perf_counter

from oracles import chain_sum, pair
from risewords.cut import chains
from risewords.cut.chains import (KINDS, chain_count, chain_share, each_chain, high_chains, high_list, is_chain,
                                  low_chains, low_list, mirrored_chain)
from risewords.cut.sums import cut_sum
from risewords.errors import InvalidNumber, InvalidOperation, InvalidRow, TooMany, UnknownName
from risewords.word.mixes import Mix
from risewords.word.rows import dual_row, firm_rows, is_firm, rows_of, word_of
from support import LONG, LONGER, LONGEST, NO_INTEGERS, NO_ROWS, STRANGE, Case

SMALL = [row for weight in range(6) for row in rows_of(weight)]
FIRM = [row for weight in range(6) for row in firm_rows(weight)]
HEAVY = [(12,), (1,) * 12, (2, 1, 3, 1, 2, 1, 2), (1, 11), (6, 6)]
NO_BOUNDS = NO_INTEGERS + (0, -1, 201, LONG, LONGER, LONGEST)
NO_KINDS = STRANGE + ("Low", "low ", "middle", ["low"], ("low",), KINDS, 0, 1, LONG, Mix({}), "lowhigh")
SUMS, LISTS = {"low": low_chains, "high": high_chains}, {"low": low_list, "high": high_list}


def fits(word, chain, kind):
    """Whether integers fall as [8.1] tells for each letter."""
    for place in range(len(word) - 1):
        one, other = chain[place], chain[place + 1]
        if kind == "low":
            good = other < one if word[place] == "y" else other <= one
        else:
            good = other < one if word[place + 1] == "x" else other <= one
        if not good:
            return False
    return True


def all_chains(bound, row, kind):
    word = word_of(row)
    return [chain for chain in product(range(1, bound), repeat=len(word)) if fits(word, chain, kind)]


def share_of(bound, row, chain):
    number = Fraction(1)
    for letter, member in zip(word_of(row), chain):
        number /= member if letter == "x" else bound - member
    return number


class Listed(Case):
    def test_constants(self):
        self.same([chains.MAX_BOUND, chains.MAX_LISTED, chains.KINDS], [200, 2000, ("low", "high")])

    def test_chains_by_their_rule(self):
        for row in SMALL:
            for bound in range(1, 6):
                for kind in KINDS:
                    wanted = all_chains(bound, row, kind)
                    self.same(list(each_chain(bound, row, kind=kind)), wanted)
                    self.same(chain_count(bound, row, kind=kind), len(wanted))

    def test_the_default_kind(self):
        for row in ((3,), (2, 1), (1, 2)):
            self.same(list(each_chain(4, row)), list(each_chain(4, row, kind="low")))
            self.same(chain_count(9, row), chain_count(9, row, kind="low"))
            for chain in product(range(1, 4), repeat=3):
                self.assertIs(is_chain(4, row, chain), is_chain(4, row, chain, kind="low"))

    def test_counts_by_binomials(self):
        for row in SMALL[1:] + HEAVY:
            size, weight = len(row), sum(row)
            for bound in (1, 2, 3, 20, 200):
                falls = weight - size - 1 if is_firm(row) else weight - size
                self.same(chain_count(bound, row), comb(bound - 1 + weight - size, weight))
                self.same(chain_count(bound, row, kind="high"), comb(bound - 1 + weight - 1 - falls, weight))
        self.same([chain_count(bound, (), kind=kind) for bound in (1, 200) for kind in KINDS], [1] * 4)

    def test_two_thousand_chains_and_more(self):
        self.same(chain_count(63, (1, 1)), 1891)
        self.same(chain_count(45, (1, 1), kind="high"), 990)
        self.same(chain_count(65, (1, 1)), 2016)
        self.same(len(list(each_chain(63, (1, 1)))), 1891)
        self.fails(TooMany(2000), next, each_chain(65, (1, 1)))
        self.fails(TooMany(2000), next, each_chain(200, (1,) * 40))
        self.fails(TooMany(2000), next, each_chain(200, (40,), kind="high"))
        self.same(len(list(each_chain(200, (1,)))), 199)

    def test_the_counts_nearest_to_two_thousand(self):
        near = [(chain_count(bound, row, kind=kind), bound, row, kind) for row in SMALL[1:] for bound in range(2, 80)
                for kind in KINDS]
        below, above = max(case for case in near if case[0] <= 2000), min(case for case in near if case[0] > 2000)
        count, bound, row, kind = below
        self.same(len(list(each_chain(bound, row, kind=kind))), count)
        count, bound, row, kind = above
        self.fails(TooMany(2000), next, each_chain(bound, row, kind=kind))

    def test_long_chains(self):
        self.same(list(each_chain(41, (1,) * 40)), [tuple(range(40, 0, -1))])
        self.same(list(each_chain(40, (1,) * 40)), [])
        self.same(list(each_chain(2, (40,))), [(1,) * 40])
        self.same(list(each_chain(39, (40,), kind="high")), [])
        self.same(list(each_chain(40, (40,), kind="high")), [(*range(39, 0, -1), 1)])
        self.same(list(each_chain(2, (1,) * 40, kind="high")), [(1,) * 40])
        found = list(each_chain(42, (1,) * 40))
        self.same([len(found), found[0], found[-1]], [41, tuple(range(40, 0, -1)), tuple(range(41, 1, -1))])

    def test_the_row_without_entries(self):
        for bound in (1, 2, 200):
            for kind in KINDS:
                self.same(list(each_chain(bound, (), kind=kind)), [()])
                self.assertIs(is_chain(bound, (), (), kind=kind), True)
                self.assertIs(is_chain(bound, (), (1,), kind=kind), False)

    def test_wrong_arguments(self):
        for value in NO_BOUNDS:
            self.fails(InvalidNumber(value), chain_count, value, None, kind=None)
            self.fails(InvalidNumber(value), next, each_chain(value, None, kind=None))
            self.fails(InvalidNumber(value), is_chain, value, None, (), kind=None)
        for value in NO_ROWS:
            self.fails(InvalidRow, chain_count, 200, value, kind=None)
            self.fails(InvalidRow, next, each_chain(200, value, kind=None))
            self.fails(InvalidRow, is_chain, 200, value, (), kind=None)
        for kind in NO_KINDS:
            self.fails(UnknownName(kind), chain_count, 200, (1, 1), kind=kind)
            self.fails(UnknownName(kind), next, each_chain(200, (1, 1), kind=kind))
            self.fails(UnknownName(kind), is_chain, 200, (1, 1), (2, 1), kind=kind)


class Judged(Case):
    def test_chains_and_others(self):
        for row in SMALL:
            for bound in (1, 2, 4):
                for kind in KINDS:
                    right = set(all_chains(bound, row, kind))
                    for size in (sum(row) - 1, sum(row), sum(row) + 1):
                        for chain in product(range(bound + 1), repeat=max(size, 0)):
                            self.assertIs(is_chain(bound, row, chain, kind=kind), chain in right)

    def test_other_values(self):
        wrong = STRANGE + ((), 1, (3,), (3, 2), (3, 2, 1, 1), [3, 2, 1], (3, 2, True), (True, True, True), (3, 2, None),
                           (3, "2", 1), (4, 2, 1), (3, 2, 0), (3, 3, -1), (LONGEST, 2, 1), (10 ** 4000, 2, 1),
                           (3, 2, -LONGER), Mix.of((3,)), ((3, 2, 1),), (3.0, 2, 1), {3: 1, 2: 1, 1: 1})
        for kind in KINDS:
            self.each(lambda value: is_chain(4, (2, 1), value, kind=kind), wrong, False)
            self.assertIs(is_chain(4, (2, 1), (3, 2, 1), kind=kind), True)

    def test_low_and_high_chains_differ(self):
        for row in ((3,), (2, 1), (1, 1, 1)):
            low, high = (set(each_chain(4, row, kind=kind)) for kind in KINDS)
            self.assertNotEqual(low, high)
        self.same([is_chain(4, (2, 1), (3, 3, 2)), is_chain(4, (2, 1), (3, 3, 2), kind="high")], [True, True])
        self.same([is_chain(4, (2, 1), (3, 2, 2)), is_chain(4, (2, 1), (3, 2, 2), kind="high")], [False, True])
        self.same([is_chain(4, (3,), (3, 3, 3)), is_chain(4, (3,), (3, 3, 3), kind="high")], [True, False])


class Shares(Case):
    def test_sums_of_shares(self):
        for row in SMALL:
            for bound in range(1, 6):
                for kind in KINDS:
                    found = sum((share_of(bound, row, chain) for chain in all_chains(bound, row, kind)), Fraction(0))
                    self.same(SUMS[kind](bound, row), pair(found))

    def test_lists_by_the_first_integer(self):
        for row in SMALL[1:]:
            for bound in range(1, 6):
                for kind in KINDS:
                    wanted = [Fraction(0)] * (bound - 1)
                    for chain in all_chains(bound, row, kind):
                        wanted[chain[0] - 1] += share_of(bound, row, chain)
                    self.same(LISTS[kind](bound, row), tuple(pair(number) for number in wanted))

    def test_low_chains_and_cut_sums(self):
        for row in SMALL + HEAVY + [(40,), (1,) * 40]:
            for bound in (1, 2, 3, 13, 42):
                self.same(low_chains(bound, row), cut_sum(bound, row))
                if row:
                    total = sum((Fraction(*number) for number in low_list(bound, row)), Fraction(0))
                    self.same(cut_sum(bound, row), pair(total))
        for row in ((), (2, 1), (3, 3), (1, 2, 1)):
            self.same(low_chains(200, row), cut_sum(200, row))
            self.same(low_chains(6, row), pair(chain_sum(6, row)))

    def test_high_chains_of_the_dual(self):
        for row in FIRM + [(12,), (2, 1, 3, 1, 2, 1, 2), (6, 6)]:
            for bound in (1, 2, 3, 13, 200):
                self.same(high_chains(bound, dual_row(row)), cut_sum(bound, row))

    def test_mirrored_chains_of_the_dual(self):
        for row in FIRM:
            for bound in range(1, 6):
                mirrored = []
                for chain in each_chain(bound, row):
                    mirrored.append(mirrored_chain(bound, chain))
                    self.same(chain_share(bound, dual_row(row), mirrored[-1]), chain_share(bound, row, chain))
                self.same(sorted(mirrored), list(each_chain(bound, dual_row(row), kind="high")))

    def test_lists_of_the_greatest_bound(self):
        for row in HEAVY:
            for kind in KINDS:
                found = LISTS[kind](200, row)
                self.assertEqual(len(found), 199)
                self.same(pair(sum(Fraction(*number) for number in found)), SUMS[kind](200, row))

    def test_the_bound_1(self):
        for call in (low_chains, high_chains):
            self.same([call(1, ()), call(1, (1,)), call(1, (40,)), call(200, ())], [(1, 1), (0, 1), (0, 1), (1, 1)])
        for call in (low_list, high_list):
            self.same([call(1, (1,)), call(2, (1,)), call(2, (40,))[:0]], [(), ((1, 1),), ()])

    def test_what_is_not_true(self):
        self.same([low_chains(3, (3,)), high_chains(3, (3,))], [(9, 8), (1, 4)])
        self.assertNotEqual(low_chains(3, (3,)), low_chains(3, dual_row((3,))))

    def test_shares_of_chains(self):
        for row in SMALL:
            for bound in (2, 4):
                for chain in product(range(1, bound), repeat=sum(row)):
                    self.same(chain_share(bound, row, chain), pair(share_of(bound, row, chain)))
        self.same([chain_share(1, (), ()), chain_share(200, (40,), (199,) * 40)], [(1, 1), (1, 199 ** 39)])

    def test_mirrored_tuples(self):
        self.same([mirrored_chain(1, ()), mirrored_chain(5, (1, 4, 4, 2)), mirrored_chain(200, (199,) * 40)],
                  [(), (3, 1, 1, 4), (1,) * 40])
        for chain in product(range(1, 5), repeat=3):
            self.same(mirrored_chain(5, mirrored_chain(5, chain)), chain)

    def test_sums_take_little_time(self):
        start = perf_counter()
        for row in HEAVY:
            for kind in KINDS:
                SUMS[kind](200, row)
                LISTS[kind](200, row)
        list(each_chain(63, (1, 1)))
        self.assertLess(perf_counter() - start, 1)


class Wrong(Case):
    def test_sums_and_lists(self):
        for call in (low_chains, high_chains, low_list, high_list):
            for value in NO_BOUNDS:
                self.fails(InvalidNumber(value), call, value, (2,))
                self.fails(InvalidNumber(value), call, value, None)
                self.fails(InvalidNumber(value), call, value, ())
            for value in NO_ROWS:
                self.fails(InvalidRow, call, 200, value)
        for call in (low_list, high_list):
            for bound in (1, 3, 200):
                self.fails(InvalidOperation, call, bound, ())

    def test_shares(self):
        for value in NO_BOUNDS:
            self.fails(InvalidNumber(value), chain_share, value, None, None)
            self.fails(InvalidNumber(value), mirrored_chain, value, None)
        for value in NO_ROWS:
            self.fails(InvalidRow, chain_share, 200, value, None)
        wrong = STRANGE + (1, (3, 2), (3, 2, 1, 1), [3, 2, 1], (3, 2, True), (4, 2, 1), (3, 2, 0), (3, -1, 1),
                           (3, 2, "1"), (LONGER, 2, 1), Mix.of((3,)))
        for value in wrong + ((),):
            self.fails(InvalidOperation, chain_share, 4, (2, 1), value)
        for value in wrong + ((1,) * 41, (3,) * 41):
            if value not in ((3, 2), (3, 2, 1, 1)):
                self.fails(InvalidOperation, mirrored_chain, 4, value)
        self.fails(InvalidOperation, mirrored_chain, 1, (1,))

    def test_generators_wait(self):
        self.same(list(islice(each_chain(200, (1,)), 2)), [(1,), (2,)])

    def test_the_functions_stand_in_the_module_itself(self):
        for name in ("low_chains", "high_chains", "low_list", "high_list", "chain_count", "each_chain", "is_chain",
                     "chain_share", "mirrored_chain"):
            self.assertEqual(getattr(chains, name).__module__, "risewords.cut.chains")
