"""[11.1] to [11.7] and the functions of risewords.whole.polynomials."""

import random
from fractions import Fraction
from itertools import takewhile
from math import factorial
from time import perf_counter

from oracles import pair
from risewords.errors import InvalidMix, InvalidNumber, InvalidRow, TooMany, UnknownName
from risewords.follow.relations import does_follow, relation
from risewords.weave.products import joined, power, product
from risewords.whole import polynomials
from risewords.whole.polynomials import gamma_mix, led_whole, made_whole, mix_of_whole, whole_gap
from risewords.word.mixes import Mix
from risewords.word.rows import firm_rows, rows_of
from support import LONG, LONGER, LONGEST, NO_INTEGERS, NO_ROWS, STRANGE, Case
from test_products import NO_MIXES, NO_WAYS

ZERO, UNIT, ONE = Mix({}), Mix.of(()), Mix.of((1,))
BOTH = ("joined", "woven")
ROWS = [row for weight in range(9) for row in rows_of(weight)]
SMALL = [row for weight in range(6) for row in rows_of(weight)]
NO_PARTS = STRANGE + (1, {}, [UNIT], [ZERO], UNIT, (ONE,), (UNIT, ONE), (ZERO, Mix({(2,): 1, (1, 2): 1})), (UNIT, None),
                      ((2,),), (UNIT, (2,)), (ZERO,) * 10, (UNIT,) * 10, (UNIT, True), ({(2,): 1},))
NO_WHOLE_WAYS = NO_WAYS + ("laid",)


def told(parts, way):
    """The mix that a polynomial tells, by products of mixes."""
    total = ZERO
    for index, part in enumerate(parts):
        total = total + product(part, power(ONE, index, way=way), way=way)
    return total


def filled(parts):
    """The parts up to the last one other than zero."""
    parts = list(parts)
    while parts and not parts[-1]:
        parts.pop()
    return tuple(parts)


def gammas(most):
    """The gamma mixes by their rule."""
    found = [UNIT]
    for number in range(1, most + 1):
        total = ZERO
        for entry in range(2, number + 1):
            total = total + joined(Mix.of((entry,)), found[number - entry]) * (-1) ** entry
        found.append(total * (1, number))
    return found


def led_over(parts):
    """The polynomial, led over, by its rule."""
    mixes = gammas(8)
    led = [ZERO] * len(parts)
    for index, part in enumerate(parts):
        for less in range(index + 1):
            number = factorial(index) // factorial(index - less)
            led[index - less] = led[index - less] + joined(part, mixes[less]) * number
    return filled(led)


def drawn_parts(chance, most):
    """A polynomial of firm mixes, a part with an index and rows up to a weight together."""
    parts = []
    for index in range(chance.randint(1, most + 1)):
        rows = [row for weight in range(most - index + 1) for row in firm_rows(weight)]
        rows = chance.sample(rows, min(len(rows), chance.randint(0, 3)))
        parts.append(Mix({row: pair(Fraction(chance.choice((-3, -1, 1, 2)), chance.randint(1, 4))) for row in rows}))
    return tuple(parts)


class Made(Case):
    def test_constants(self):
        self.same(polynomials.MAX_WHOLE, 8)

    def test_each_row_is_told_by_its_polynomial(self):
        # There is just one polynomial of firm parts that tells the row.
        for row in ROWS:
            ones = len(list(takewhile(lambda entry: entry == 1, row)))
            for way in BOTH:
                parts = made_whole(row, way=way)
                self.assertIs(type(parts), tuple)
                self.assertTrue(all(part.is_firm_mix for part in parts))
                self.assertEqual(told(parts, way), Mix.of(row))
                self.same(len(parts), ones + 1)
                self.same(parts[-1].terms, {row[ones:]: (1, factorial(ones))})

    def test_firm_rows(self):
        for row in [row for weight in range(9) for row in firm_rows(weight)]:
            for way in BOTH:
                parts = made_whole(row, way=way)
                self.same([len(parts), parts[0].terms], [1, {row: (1, 1)}])

    def test_products_of_polynomials(self):
        rows = [row for row in SMALL if sum(row) < 5]
        chance = random.Random(51)
        for _ in range(60):
            one, other = chance.choice(rows), chance.choice(rows)
            for way in BOTH:
                left, right = made_whole(one, way=way), made_whole(other, way=way)
                parts = [ZERO] * (len(left) + len(right) - 1)
                for index, part in enumerate(left):
                    for place, factor in enumerate(right):
                        parts[index + place] = parts[index + place] + product(part, factor, way=way)
                total = [ZERO] * 9
                for row, ratio in product(Mix.of(one), Mix.of(other), way=way):
                    for index, part in enumerate(made_whole(row, way=way)):
                        total[index] = total[index] + part * ratio
                self.assertEqual(filled(parts), filled(total))

    def test_what_is_not_true(self):
        self.assertNotEqual(made_whole((1, 2), way="joined"), made_whole((1, 2), way="woven"))
        self.same([len(row) for row, _ in made_whole((1, 2), way="joined")[0]], [2, 1])

    def test_weights_8_and_9(self):
        for way in BOTH:
            self.same(len(made_whole((1,) * 8, way=way)), 9)
            for row in ((1,) * 9, (9,), (1, 8), (40,)):
                self.fails(TooMany(8), made_whole, row, way=way)

    def test_wrong_arguments(self):
        for value in NO_ROWS:
            self.fails(InvalidRow, made_whole, value, way="laid")
            self.fails(InvalidRow, made_whole, value, way="woven")
        for way in NO_WHOLE_WAYS:
            self.fails(UnknownName(way), made_whole, (40,), way=way)
            self.fails(UnknownName(way), made_whole, (2,), way=way)


class Told(Case):
    def test_mixes_of_polynomials(self):
        chance = random.Random(52)
        for _ in range(40):
            parts = drawn_parts(chance, 8)
            for way in BOTH:
                self.same(mix_of_whole(parts, way=way).terms, told(parts, way).terms)

    def test_forth_and_back(self):
        for row in ROWS:
            for way in BOTH:
                self.same(mix_of_whole(made_whole(row, way=way), way=way).terms, {row: (1, 1)})

    def test_zero_mixes(self):
        for way in BOTH:
            for parts in ((), (ZERO,), (ZERO,) * 9):
                self.same(mix_of_whole(parts, way=way).terms, {})
            self.same(mix_of_whole((UNIT * (2, 3), ZERO), way=way).terms, {(): (2, 3)})
            self.same(mix_of_whole((ZERO,) * 8 + (UNIT,), way=way).terms, power(ONE, 8, way=way).terms)

    def test_long_numbers(self):
        parts = (Mix({(2,): (LONG, LONGER - 1)}), Mix({(3,): 1 - LONGER, (2,): (1, LONG)}))
        for way in BOTH:
            self.same(mix_of_whole(parts, way=way).terms, told(parts, way).terms)

    def test_weights_8_and_9(self):
        for way in BOTH:
            for parts in ((Mix.of((8,)), ZERO, Mix.of((2, 1, 3))), (ZERO,) * 6 + (Mix.of((2,)), ZERO, UNIT)):
                self.same(mix_of_whole(parts, way=way).top_weight, 8)
                led_whole(parts)
            for parts in ((Mix.of((9,)),), (ZERO, Mix.of((8,))), (ZERO,) * 7 + (Mix.of((2,)),), (ZERO, Mix.of((2, 38)))):
                self.fails(TooMany(8), mix_of_whole, parts, way=way)
                self.fails(TooMany(8), led_whole, parts)

    def test_wrong_arguments(self):
        for value in [value for value in NO_PARTS + NO_MIXES if value != ()]:
            self.fails(InvalidMix, mix_of_whole, value, way="laid")
            self.fails(InvalidMix, mix_of_whole, value, way="joined")
            self.fails(InvalidMix, led_whole, value)
        for way in NO_WHOLE_WAYS:
            self.fails(UnknownName(way), mix_of_whole, (Mix.of((9,)),), way=way)
            self.fails(UnknownName(way), mix_of_whole, (), way=way)


class Gammas(Case):
    def test_gamma_mixes_by_their_rule(self):
        wanted = gammas(8)
        for number in range(9):
            found = gamma_mix(number)
            self.same(found.terms, wanted[number].terms)
            self.assertTrue(found.is_firm_mix and found.is_level)
            self.assertIn(found.top_weight, (number, None))
        self.same([gamma_mix(0).terms, gamma_mix(1).terms], [{(): (1, 1)}, {}])
        self.assertTrue(any(bottom > 1 for _, (_, bottom) in gamma_mix(2)))

    def test_wrong_numbers(self):
        for value in NO_INTEGERS + (-1, 9, LONG, LONGER, LONGEST):
            self.fails(InvalidNumber(value), gamma_mix, value)


class Led(Case):
    def test_polynomials_led_over(self):
        chance = random.Random(53)
        for _ in range(25):
            parts = drawn_parts(chance, 8)
            self.assertEqual(led_whole(parts), led_over(parts))
        for row in SMALL:
            parts = made_whole(row, way="joined")
            self.assertEqual([part.terms for part in led_whole(parts)], [part.terms for part in led_over(parts)])

    def test_zero_parts_at_the_end_are_left_out(self):
        self.same([led_whole(()), led_whole((ZERO,)), led_whole((ZERO,) * 9)], [(), (), ()])
        self.same([part.terms for part in led_whole((UNIT, ZERO, ZERO))], [{(): (1, 1)}])

    def test_led_over_twice(self):
        parts = made_whole((1, 1, 2), way="joined")
        self.assertNotEqual(led_whole(led_whole(parts)), parts)
        self.assertNotEqual(led_whole(parts), parts)


class Gaps(Case):
    def test_gaps_by_their_rule(self):
        for row in ROWS:
            woven_parts, led = made_whole(row, way="woven"), led_over(made_whole(row, way="joined"))
            size = max(len(woven_parts), len(led))
            wanted = [one - other for one, other in zip(woven_parts + (ZERO,) * (size - len(woven_parts)),
                                                        led + (ZERO,) * (size - len(led)))]
            self.assertEqual(whole_gap(row), filled(wanted))

    def test_parts_of_gaps_follow(self):
        for row in [row for row in ROWS if sum(row) < 8] + [(1, 1, 2, 1, 3), (1, 1, 1, 5), (1, 1, 2, 4), (1, 2, 1, 4)]:
            for part in whole_gap(row):
                self.assertTrue(does_follow(part))

    def test_gaps_of_one_and_a_firm_row(self):
        for row in [row for weight in range(2, 8) for row in firm_rows(weight)]:
            found = whole_gap((1, *row))
            self.same([len(found), found[0].terms], [1, relation((1,), row).terms])

    def test_gaps_that_are_empty(self):
        for weight in range(9):
            self.same(whole_gap((1,) * weight), ())
            for row in firm_rows(weight):
                self.same(whole_gap(row), ())

    def test_later_parts(self):
        self.assertTrue(len(whole_gap((1, 1, 2))) > 1)
        self.assertTrue(all(whole_gap(row)[-1] for row in ROWS if whole_gap(row)))

    def test_wrong_arguments(self):
        for value in NO_ROWS:
            self.fails(InvalidRow, whole_gap, value)
        for row in ((9,), (1,) * 9, (1, 8), (40,)):
            self.fails(TooMany(8), whole_gap, row)

    def test_gaps_take_little_time(self):
        start = perf_counter()
        for row in rows_of(6):
            whole_gap(row)
        self.assertLess(perf_counter() - start, 1)

    def test_the_functions_stand_in_the_module_itself(self):
        for name in ("made_whole", "mix_of_whole", "gamma_mix", "led_whole", "whole_gap"):
            self.assertEqual(getattr(polynomials, name).__module__, "risewords.whole.polynomials")
