"""[10.1] to [10.9] and the functions of risewords.prime.residues."""

import random
from fractions import Fraction
from itertools import islice
from math import comb
from time import perf_counter

from oracles import chain_sum
from risewords.base.ratios import bernoulli
from risewords.cut.sums import cut_sum, cut_value, slack_sum
from risewords.errors import InvalidMix, InvalidNumber, InvalidOperation, InvalidRow, Refused
from risewords.prime import residues
from risewords.prime.residues import (choose_rest, cut_rest, each_rest, holds_for, mix_rest, one_rest, slack_rest,
                                      two_rest)
from risewords.weave.products import joined, woven
from risewords.word.mixes import Mix
from risewords.word.rows import dual_row, rows_of, turned_row
from support import LONG, LONGER, LONGEST, NO_INTEGERS, NO_ROWS, STRANGE, Case
from test_products import NO_MIXES, drawn

PRIMES = tuple(number for number in range(2, 500) if all(number % low for low in range(2, number)))
SMALL = [row for weight in range(6) for row in rows_of(weight)]
HEAVY = [(40,), (1,) * 40, (2,) * 20, (1, 39), (5, 1, 3, 1, 2), (2, 3, 4), (1,) * 9]
NO_PRIMES = NO_INTEGERS + (0, 1, -1, -2, 4, 9, 15, 25, 437, 497, 498, 500, 503, 2 ** 61 - 1, LONG, LONGER, LONGEST)
ZERO, UNIT = Mix({}), Mix.of(())


def rest_of(number, prime):
    """The rest of a fraction."""
    number = Fraction(number)
    return number.numerator * pow(number.denominator, -1, prime) % prime


def stepped(prime, row, slack=False):
    """The rest of the sum of a row, step by step."""
    sums = [1] * (prime + 1)
    for entry in row[::-1]:
        further = [0, 0]
        for number in range(1, prime):
            below = sums[number + 1] if slack else sums[number]
            further.append((further[-1] + below * pow(number, -entry, prime)) % prime)
        sums = further
    return sums[prime]


class Rests(Case):
    def test_constants(self):
        self.same(residues.MAX_PRIME, 499)

    def test_rests_of_sums_over_listed_chains(self):
        for row in SMALL:
            for prime in (2, 3, 5, 7, 11):
                self.same(cut_rest(prime, row), rest_of(chain_sum(prime, row), prime))
                self.same(slack_rest(prime, row), rest_of(chain_sum(prime, row, slack=True), prime))

    def test_rests_of_cut_sums(self):
        for row in HEAVY + [(2, 1), (1, 2, 1)]:
            for prime in (2, 13, 43, 61, 199):
                self.same(cut_rest(prime, row), rest_of(Fraction(*cut_sum(prime, row)), prime))
                self.same(slack_rest(prime, row), rest_of(Fraction(*slack_sum(prime, row)), prime))

    def test_rests_for_all_primes(self):
        for row in [(), (1,), (2, 1), (1, 3, 2), (40,), (1,) * 9]:
            for prime in PRIMES:
                self.same(cut_rest(prime, row), stepped(prime, row))
                self.same(slack_rest(prime, row), stepped(prime, row, slack=True))
        for row in HEAVY:
            for prime in (2, 3, 499):
                self.same(cut_rest(prime, row), stepped(prime, row))
                self.same(slack_rest(prime, row), stepped(prime, row, slack=True))

    def test_rows_without_and_with_many_entries(self):
        for prime in PRIMES[:12]:
            self.same([cut_rest(prime, ()), slack_rest(prime, ())], [1, 1])
            for size in range(1, 41):
                if size > prime - 1:
                    self.same(cut_rest(prime, (1,) * size), 0)
            if prime <= 41:
                wanted = rest_of(chain_sum(prime, (1,) * (prime - 1)), prime)
                self.same(cut_rest(prime, (1,) * (prime - 1)), wanted)
                self.assertNotEqual(wanted, 0)

    def test_turned_about_and_turned_over(self):
        for row in SMALL + HEAVY:
            for prime in (2, 3, 5, 7, 31, 499):
                sign = (-1) ** sum(row)
                for call in (cut_rest, slack_rest):
                    self.same(call(prime, row[::-1]), sign * call(prime, row) % prime)
                if row:
                    self.same((slack_rest(prime, row) + slack_rest(prime, turned_row(row))) % prime, 0)

    def test_equal_entries(self):
        for entry in range(1, 5):
            for size in range(1, 6):
                for prime in PRIMES:
                    if size * entry + 1 < prime < 120:
                        self.same(cut_rest(prime, (entry,) * size), 0)

    def test_what_is_not_true(self):
        self.assertNotEqual(mix_rest(7, Mix({(3,): 1, (2, 1): -1})), 0)
        self.assertNotEqual(cut_rest(7, (3,)), cut_rest(7, dual_row((3,))))
        one, two = Mix.of((1,)), Mix.of((2,))
        self.assertNotEqual(mix_rest(5, woven(one, two)), cut_rest(5, (1,)) * cut_rest(5, (2,)) % 5)
        self.same([slack_rest(3, turned_row((2, 2))), cut_rest(3, (2, 2))], [0, 1])

    def test_wrong_arguments(self):
        for call in (cut_rest, slack_rest):
            for value in NO_PRIMES:
                self.fails(InvalidNumber(value), call, value, (2,))
                self.fails(InvalidNumber(value), call, value, None)
            for value in NO_ROWS:
                self.fails(InvalidRow, call, 499, value)
                self.fails(InvalidRow, call, 2, value)

    def test_rests_take_little_time(self):
        start = perf_counter()
        for row in ((2, 3, 4), (1,) * 9, (9,)):
            for _ in range(5):
                cut_rest(499, row)
                slack_rest(499, row)
        list(each_rest((2, 1)))
        two_rest(499, 40, 39)
        self.assertLess(perf_counter() - start, 1)


class Mixes(Case):
    def test_rests_of_mixes(self):
        chance = random.Random(41)
        for _ in range(30):
            mix = drawn(chance, 6, 5)
            for prime in (5, 7, 11, 13):
                self.same(mix_rest(prime, mix), rest_of(Fraction(*cut_value(prime, mix)), prime))
            wanted = sum(rest_of(Fraction(*ratio), 499) * stepped(499, row) for row, ratio in mix) % 499
            self.same(mix_rest(499, mix), wanted)

    def test_zero_and_rows_without_entries(self):
        for prime in (2, 3, 499):
            self.same([mix_rest(prime, ZERO), mix_rest(prime, UNIT), mix_rest(prime, UNIT * -1)], [0, 1, prime - 1])
        self.same([mix_rest(2, UNIT * (1, 3)), mix_rest(3, UNIT * (1, 2)), mix_rest(7, UNIT * (7, 3))], [1, 2, 0])

    def test_long_numbers(self):
        mix = Mix({(2, 1): (LONGER - 1, LONG), (): 1 - LONGER})
        wanted = (rest_of(Fraction(LONGER - 1, LONG), 7) * cut_rest(7, (2, 1)) + 1 - LONGER) % 7
        self.same(mix_rest(7, mix), wanted)

    def test_joined_products(self):
        chance = random.Random(42)
        for _ in range(40):
            one, other = chance.choice(SMALL), chance.choice(SMALL)
            prime = chance.choice(PRIMES)
            self.same(mix_rest(prime, joined(Mix.of(one), Mix.of(other))),
                      cut_rest(prime, one) * cut_rest(prime, other) % prime)

    def test_bottoms_that_the_prime_divides(self):
        self.fails(Refused(("bottom", 2)), mix_rest, 2, Mix({(2, 1): (1, 2)}))
        self.fails(Refused(("bottom", 3)), mix_rest, 3, Mix({(): (1, 6), (2,): 1}))
        self.fails(Refused(("bottom", 499)), mix_rest, 499, Mix({(1,): (1, 2), (40,): (-1, 998)}))
        # No chain is there for the row, and the bottom is refused all the same.
        self.fails(Refused(("bottom", 2)), mix_rest, 2, Mix({(1, 1, 1): (1, 4)}))
        self.same(mix_rest(3, Mix({(2, 1): (1, 2)})), cut_rest(3, (2, 1)) * 2 % 3)

    def test_wrong_arguments(self):
        for value in NO_PRIMES:
            self.fails(InvalidNumber(value), mix_rest, value, UNIT)
            self.fails(InvalidNumber(value), mix_rest, value, None)
        for value in NO_MIXES:
            self.fails(InvalidMix, mix_rest, 2, value)


class Rules(Case):
    def test_one_entry(self):
        for prime in PRIMES[:30] + (499,):
            for entry in list(range(1, 41)) + [prime - 1, 2 * (prime - 1)]:
                wanted = sum(pow(number, -entry, prime) for number in range(1, prime)) % prime
                self.same(one_rest(prime, entry), wanted)
                if entry <= 40:
                    self.same(one_rest(prime, entry), cut_rest(prime, (entry,)))

    def test_long_entries(self):
        self.same([one_rest(2, LONGER - 1), one_rest(3, LONGER - 1), one_rest(3, LONGER - 2)], [1, 0, 2])
        self.same([one_rest(499, 498 * 10 ** 57), one_rest(499, 498 * 10 ** 57 + 1)], [498, 0])

    def test_two_entries(self):
        for prime in PRIMES:
            for one in (1, 2, 3, 5, 40):
                for other in (1, 2, 4, 39, 40):
                    if prime > one + other + 1 and (prime < 100 or prime > 480):
                        self.same(two_rest(prime, one, other), stepped(prime, (one, other)))
                    elif prime <= one + other + 1:
                        self.fails(InvalidOperation, two_rest, prime, one, other)

    def test_two_entries_by_bernoullis_numbers(self):
        for prime in (5, 7, 11, 13, 101, 199):
            for one in range(1, 9):
                for other in range(1, 9):
                    both = one + other
                    if prime > both + 1:
                        number = Fraction((-1) ** one * comb(both, one), both) * Fraction(*bernoulli(prime - both))
                        self.same(two_rest(prime, one, other), rest_of(number, prime))
                        if both % 2 == 0:
                            self.same(two_rest(prime, one, other), 0)

    def test_the_least_primes_for_two_entries(self):
        self.same(two_rest(5, 1, 1), 0)
        self.same(two_rest(5, 1, 2), stepped(5, (1, 2)))
        for prime, one, other in ((2, 1, 1), (3, 1, 1), (5, 2, 2), (5, 1, 3), (5, 3, 1), (79, 40, 40), (7, 2, 4)):
            self.fails(InvalidOperation, two_rest, prime, one, other)
        self.same(two_rest(83, 40, 40), stepped(83, (40, 40)))

    def test_binomials(self):
        for prime in PRIMES:
            self.same(choose_rest(prime), comb(2 * prime - 1, prime - 1) % prime ** 3)
            if prime >= 5:
                self.same(choose_rest(prime), 1)

    def test_wrong_arguments(self):
        for value in NO_PRIMES:
            self.fails(InvalidNumber(value), one_rest, value, None)
            self.fails(InvalidNumber(value), two_rest, value, None, None)
            self.fails(InvalidNumber(value), choose_rest, value)
        for value in NO_INTEGERS + (0, -1, LONGER, -LONGER, LONGEST):
            self.fails(InvalidNumber(value), one_rest, 7, value)
        for value in NO_INTEGERS + (0, -1, 41, LONG, LONGER):
            self.fails(InvalidNumber(value), two_rest, 2, value, None)
            self.fails(InvalidNumber(value), two_rest, 499, 1, value)
            self.fails(InvalidNumber(value), two_rest, 2, 40, value)


class Held(Case):
    def test_mixes_for_primes(self):
        mix = Mix({(3,): 1, (2, 1): -1})
        rests = {prime: mix_rest(prime, mix) for prime in PRIMES}
        for prime in PRIMES:
            self.assertIs(holds_for(mix, (prime,)), rests[prime] == 0)
        self.assertIs(holds_for(Mix.of((3,)), PRIMES[1:]), True)
        self.assertIs(holds_for(Mix.of((3,)), PRIMES), False)
        self.assertIs(holds_for(Mix.of((2, 2)), PRIMES[3:]), True)
        self.assertIs(holds_for(Mix.of((2, 2)), PRIMES[2:]), cut_rest(5, (2, 2)) == 0)
        self.assertIs(holds_for(Mix({(2, 1): 1, (1, 2): 1}), PRIMES[2:]), True)
        self.assertIs(holds_for(ZERO, PRIMES), True)
        self.assertIs(holds_for(UNIT * 6, (2, 3)), True)
        self.assertIs(holds_for(UNIT * 6, (2, 3, 5)), False)

    def test_no_primes_at_all(self):
        for mix in (ZERO, UNIT, Mix({(2, 1): (1, 2)})):
            self.assertIs(holds_for(mix, ()), True)

    def test_bottoms(self):
        mix = Mix({(): (1, 15), (2,): (1, 7)})
        self.fails(Refused(("bottom", 3)), holds_for, mix, (2, 3, 5, 7))
        self.fails(Refused(("bottom", 5)), holds_for, mix, (2, 5, 7))
        self.fails(Refused(("bottom", 7)), holds_for, mix, (7, 11))
        self.assertIs(holds_for(mix, (2, 11)), False)

    def test_wrong_arguments(self):
        for value in NO_MIXES:
            self.fails(InvalidMix, holds_for, value, None)
            self.fails(InvalidMix, holds_for, value, (2, 3))
        bad = Mix({(): (1, 2)})
        wrong = [value for value in STRANGE if value != ()] + [
            2, [2, 3], (3, 2), (2, 2), (2, 3, 3), (2, 4), (1,), (2, 503), (0, 2), (-2, 2), (2, True), ("2",), (2, None),
            ((2,),), {2: 3}, (2, LONGEST), (5, 3), PRIMES + (503,), PRIMES + (2,), (Mix.of((2,)),), Mix.of((2,))]
        for value in wrong:
            self.fails(InvalidOperation, holds_for, bad, value)


class Listed(Case):
    def test_all_primes(self):
        for row in ((), (2,), (1, 2), (1,) * 40):
            self.same(list(each_rest(row)), [(prime, cut_rest(prime, row)) for prime in PRIMES])
        self.same([len(PRIMES), PRIMES[0], PRIMES[-1]], [95, 2, 499])

    def test_wrong_rows_are_refused_with_the_first_pair(self):
        for value in NO_ROWS:
            waiting = each_rest(value)
            self.fails(InvalidRow, next, waiting)
        self.same(list(islice(each_rest((1, 1)), 3)), [(2, 0), (3, 2), (5, 0)])

    def test_the_functions_stand_in_the_module_itself(self):
        for name in ("cut_rest", "slack_rest", "mix_rest", "one_rest", "two_rest", "choose_rest", "holds_for",
                     "each_rest"):
            self.assertEqual(getattr(residues, name).__module__, "risewords.prime.residues")
