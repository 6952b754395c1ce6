"""[0.10], [7.1] to [7.9] and the functions of risewords.cut.sums."""

import random
from fractions import Fraction
from itertools import islice
from math import lcm
from time import perf_counter

from oracles import chain_sum, mix_of, pair, value_of
from risewords.cut import sums
from risewords.cut.sums import cut_sum, cut_value, each_cut_sum, slack_mix, slack_sum, strict_mix
from risewords.errors import InvalidMix, InvalidNumber, InvalidRow, TooMany
from risewords.weave.products import joined, woven
from risewords.word.mixes import Mix
from risewords.word.rows import dual_row, firm_rows, joinings, rows_of
from support import LONG, LONGER, LONGEST, NO_INTEGERS, NO_ROWS, Case
from test_products import NO_MIXES, drawn

ZERO, UNIT = Mix({}), Mix.of(())
SMALL = [row for weight in range(6) for row in rows_of(weight)]
HEAVY = [(40,), (1,) * 40, (20, 20), (1, 39), (39, 1), (2,) * 20, (5, 1, 3, 1, 2)]
NO_BOUNDS = NO_INTEGERS + (0, -1, 201, LONG, LONGER, LONGEST)


def stepped(bound, row, slack=False):
    """The sums of a row for all bounds to the told one, by the steps of [7.2]."""
    if row == ():
        return [Fraction(1)] * bound
    rest = stepped(bound, row[1:], slack)
    found = [Fraction(0)]
    for number in range(1, bound):
        found.append(found[-1] + rest[number if slack else number - 1] / Fraction(number) ** row[0])
    return found


class Sums(Case):
    def test_constants(self):
        self.same([sums.MAX_BOUND, sums.MAX_PARTED], [200, 12])

    def test_sums_over_listed_chains(self):
        for row in SMALL:
            for bound in range(1, 9):
                self.same(cut_sum(bound, row), pair(chain_sum(bound, row)))
                self.same(slack_sum(bound, row), pair(chain_sum(bound, row, slack=True)))

    def test_step_by_step(self):
        for row in HEAVY:
            strict, slack = stepped(60, row), stepped(60, row, slack=True)
            for bound in (1, 2, 3, 7, 20, 39, 40, 41, 42, 59, 60):
                self.same(cut_sum(bound, row), pair(strict[bound - 1]))
                self.same(slack_sum(bound, row), pair(slack[bound - 1]))

    def test_the_greatest_bound(self):
        for row in ((), (1,), (2, 1), (1, 2, 1), (3, 3), (4, 1, 1)):
            self.same(cut_sum(200, row), pair(stepped(200, row)[-1]))
            self.same(slack_sum(200, row), pair(stepped(200, row, slack=True)[-1]))

    def test_sums_that_are_0(self):
        for row in SMALL + [(1,) * 40]:
            for bound in (1, 2, 3, 4, 5, 6, 40, 41):
                self.assertIs(cut_sum(bound, row) == (0, 1), bound <= len(row))
                self.assertIs(slack_sum(bound, row) == (0, 1), bound == 1 and row != ())
        self.same([cut_sum(1, ()), slack_sum(1, ()), cut_sum(200, ()), slack_sum(200, ())], [(1, 1)] * 4)

    def test_bottoms_divide_powers_of_multiples(self):
        for row in HEAVY:
            for bound in (5, 30, 200):
                multiple = lcm(*range(1, bound))
                self.assertEqual(multiple ** sum(row) % cut_sum(bound, row)[1], 0)

    def test_rows_from_the_other_end_and_duals(self):
        self.assertNotEqual(cut_sum(3, (2, 1)), cut_sum(3, (1, 2)))
        self.same([cut_sum(3, (3,)), cut_sum(3, dual_row((3,)))], [(9, 8), (1, 4)])

    def test_sums_of_a_row_grow_with_the_bound(self):
        for row in [row for weight in range(2, 6) for row in firm_rows(weight)]:
            found = [Fraction(*number) for number in each_cut_sum(row)]
            for bound in range(len(row), 200):
                self.assertLess(found[bound - 1], found[bound])
            self.assertLess(found[-1], 2)
        self.assertLess(Fraction(5), Fraction(*cut_sum(200, (1,))))

    def test_wrong_arguments(self):
        for call in (cut_sum, slack_sum):
            for value in NO_BOUNDS:
                self.fails(InvalidNumber(value), call, value, (2,))
                self.fails(InvalidNumber(value), call, value, None)
            for value in NO_ROWS:
                self.fails(InvalidRow, call, 200, value)
                self.fails(InvalidRow, call, 1, value)

    def test_sums_take_little_time(self):
        start = perf_counter()
        for row in ((12,), (1,) * 12, (2, 1, 3, 1, 2, 1, 2), (6, 6)):
            cut_sum(200, row)
            slack_sum(200, row)
        list(each_cut_sum((4, 4, 4)))
        cut_value(200, Mix({row: 1 for row in rows_of(6)}))
        self.assertLess(perf_counter() - start, 1)


class Across(Case):
    def test_joined_products(self):
        chance = random.Random(21)
        rows = [row for row in SMALL if sum(row) < 5]
        for _ in range(60):
            one, other = chance.choice(rows), chance.choice(rows)
            bound = chance.choice((1, 2, 3, 4, 9, 30, 200))
            wanted = Fraction(*cut_sum(bound, one)) * Fraction(*cut_sum(bound, other))
            self.same(cut_value(bound, joined(Mix.of(one), Mix.of(other))), pair(wanted))

    def test_woven_products_and_slack_sums_are_not_alike(self):
        one = Mix.of((1,))
        self.assertNotEqual(cut_value(2, woven(one, one)), (1, 1))
        slack = sum(Fraction(*slack_sum(3, row)) * Fraction(*ratio) for row, ratio in joined(one, one))
        self.assertNotEqual(pair(slack), pair(Fraction(*slack_sum(3, (1,))) ** 2))

    def test_joinings(self):
        for row in SMALL + [(2, 1, 1, 3, 1, 1), (1,) * 8]:
            for bound in (1, 2, 3, 5, 8):
                parts = [(joining, Fraction(*cut_sum(bound, joining))) for joining in joinings(row)]
                self.same(slack_sum(bound, row), pair(sum(number for _, number in parts)))
                self.same(cut_value(bound, slack_mix(row)), slack_sum(bound, row))
                slack = sum(Fraction(*ratio) * Fraction(*slack_sum(bound, joining)) for joining, ratio in strict_mix(row))
                self.same(cut_sum(bound, row), pair(slack))

    def test_cuts_with_signs(self):
        for row in SMALL[1:] + [(2, 1, 1, 3, 1, 1)]:
            for bound in (1, 2, 4, 7):
                total = Fraction(0)
                for place in range(len(row) + 1):
                    front, rear = row[:place][::-1], row[place:]
                    total += (-1) ** place * Fraction(*slack_sum(bound, front)) * Fraction(*cut_sum(bound, rear))
                self.assertEqual(total, 0)


class Values(Case):
    def test_values_row_by_row(self):
        chance = random.Random(22)
        for _ in range(25):
            mix = drawn(chance, 6, 5)
            for bound in (1, 2, 3, 6, 9):
                self.same(cut_value(bound, mix), pair(value_of(bound, mix)))
        for _ in range(5):
            mix = drawn(chance, 9, 8)
            for bound in (50, 199, 200):
                wanted = sum(Fraction(*cut_sum(bound, row)) * Fraction(*ratio) for row, ratio in mix)
                self.same(cut_value(bound, mix), pair(wanted))

    def test_zero_and_rows_without_entries(self):
        for bound in (1, 2, 200):
            self.same([cut_value(bound, ZERO), cut_value(bound, UNIT * (-2, 3))], [(0, 1), (-2, 3)])
        self.same(cut_value(1, Mix({(): (5, 3), (1,): 2})), (5, 3))
        self.same(cut_value(2, Mix({(): (5, 3), (1,): 2, (40,): -1})), (8, 3))

    def test_long_numbers_and_heavy_rows(self):
        mix = Mix({(40,): (LONGER - 1, LONG), (1,) * 40: (-1, LONGER - 1), (2,) * 20: 1 - LONGER, (): 7})
        for bound in (2, 41, 60):
            wanted = sum(Fraction(*cut_sum(bound, row)) * Fraction(*ratio) for row, ratio in mix)
            self.same(cut_value(bound, mix), pair(wanted))

    def test_many_rows(self):
        mix = Mix({row: (-1) ** len(row) for weight in range(10) for row in rows_of(weight)})
        wanted = sum(Fraction(*cut_sum(20, row)) * Fraction(*ratio) for row, ratio in mix)
        self.same(cut_value(20, mix), pair(wanted))

    def test_wrong_arguments(self):
        for value in NO_BOUNDS:
            self.fails(InvalidNumber(value), cut_value, value, UNIT)
            self.fails(InvalidNumber(value), cut_value, value, None)
        for value in NO_MIXES:
            self.fails(InvalidMix, cut_value, 1, value)
            self.fails(InvalidMix, cut_value, 200, value)


class Parted(Case):
    def test_mixes_of_joinings(self):
        for row in SMALL + [(1,) * 12, (3,) * 11 + (7,)]:
            self.same(slack_mix(row).terms, {joining: (1, 1) for joining in joinings(row)})
            wanted = {joining: (-1) ** (len(row) - len(joining)) for joining in joinings(row)}
            self.same(strict_mix(row).terms, mix_of(wanted).terms)
        self.same([slack_mix(()).terms, strict_mix(()).terms], [{(): (1, 1)}] * 2)

    def test_wrong_arguments(self):
        for call in (slack_mix, strict_mix):
            for value in NO_ROWS:
                self.fails(InvalidRow, call, value)
            for row in ((1,) * 13, (1,) * 40, (3,) * 13):
                self.fails(TooMany(12), call, row)


class Listed(Case):
    def test_sums_for_all_bounds(self):
        for row in SMALL[:12] + [(5, 1, 3, 1, 2), (2, 1, 1), (40,)]:
            found = list(each_cut_sum(row))
            self.same(found, [pair(number) for number in stepped(200, row)])
            self.same([found[0], found[-1], found[41]], [cut_sum(bound, row) for bound in (1, 200, 42)])

    def test_many_entries(self):
        found = list(each_cut_sum((1,) * 40))
        self.same(found[:41], [(0, 1)] * 40 + [cut_sum(41, (1,) * 40)])
        self.same([len(found), found[-1]], [200, cut_sum(200, (1,) * 40)])

    def test_wrong_rows_are_refused_with_the_first_sum(self):
        for value in NO_ROWS:
            waiting = each_cut_sum(value)
            self.fails(InvalidRow, next, waiting)
        self.same(list(islice(each_cut_sum(()), 3)), [(1, 1)] * 3)

    def test_equal_entries_by_binomials(self):
        # All products of k of the numbers 1, 1/2, .., 1/m are (1 + 1)(1 + 1/2) .. (1 + 1/m) together: m + 1.
        for bound in range(1, 8):
            total = sum(Fraction(*cut_sum(bound, (1,) * size)) for size in range(bound))
            self.assertEqual(total, bound)


class Module(Case):
    def test_the_functions_stand_in_the_module_itself(self):
        for name in ("cut_sum", "slack_sum", "cut_value", "slack_mix", "strict_mix", "each_cut_sum"):
            self.assertEqual(getattr(sums, name).__module__, "risewords.cut.sums")
