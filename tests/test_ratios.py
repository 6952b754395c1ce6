"""[1.1], [1.5] and the functions of risewords.base.ratios."""

from fractions import Fraction
from math import comb, gcd

from risewords.base import ratios
from risewords.base.ratios import (bernoulli, binomial, compare, is_integer, is_ratio, lowest, minus, over, plus,
                                   ratio_text, times)
from risewords.errors import InvalidNumber, InvalidOperation, InvalidRatio
from support import LONG, LONGER, LONGEST, NO_INTEGERS, STRANGE, Case

SAMPLES = [(top, bottom) for top in range(-6, 7) for bottom in range(1, 7) if gcd(top, bottom) == 1]
LONG_RATIOS = [(LONGER - 1, LONG), (1 - LONGER, 2), (1, LONGER - 1), (LONG, 1), (-LONG, LONGER - 1)]
NO_RATIOS = STRANGE + ((), 1, 0, -3, (1,), (1, 2, 3), (2, 2), (2, 4), (-2, 4), (0, 0), (0, 3), (3, 0), (1, -2), (LONGER, 1),
                       (1, LONGER), (-LONGER, 1), (LONGEST, 1), (1, LONGEST), (1, False), (False, 1), ("1", "2"),
                       [1, 2], ((1, 1), 1), {(1, 2): 1}, 10 ** 99)


def fraction(ratio):
    return Fraction(ratio[0], ratio[1])


def pair(number):
    return (number.numerator, number.denominator)


class Judging(Case):
    def test_integers_have_at_most_sixty_digits(self):
        self.each(is_integer, (0, 1, -1, 400, LONG, LONGER - 1, 1 - LONGER), True)
        self.each(is_integer, (LONGER, -LONGER, LONGEST, -LONGEST, 10 ** 4000), False)

    def test_no_other_kind_is_an_integer(self):
        self.each(is_integer, NO_INTEGERS, False)

    def test_ratios(self):
        self.each(is_ratio, SAMPLES + LONG_RATIOS + [(0, 1)], True)

    def test_no_ratios(self):
        self.each(is_ratio, NO_RATIOS + ((10 ** 4000, 1), (1, 10 ** 4000)), False)


class Lowest(Case):
    def test_all_small_pairs(self):
        for top in range(-12, 13):
            for bottom in range(-12, 13):
                if bottom != 0:
                    self.same(lowest(top, bottom), pair(Fraction(top, bottom)))

    def test_long_integers(self):
        self.same(lowest(LONG, -LONG), (-1, 1))
        self.same(lowest(LONGER - 1, 3), ((LONGER - 1) // 3, 1))

    def test_wrong_top(self):
        for value in NO_INTEGERS + (LONGER, -LONGER, LONGEST):
            self.fails(InvalidNumber(value), lowest, value, 2)

    def test_wrong_bottom(self):
        for value in NO_INTEGERS + (LONGER, -LONGER, LONGEST, 0):
            self.fails(InvalidNumber(value), lowest, 2, value)

    def test_the_first_wrong_one_decides(self):
        self.fails(InvalidNumber(True), lowest, True, 0)
        self.fails(InvalidNumber(LONGER), lowest, LONGER, "a")


class Reckoning(Case):
    def test_all_pairs_of_samples(self):
        for one in SAMPLES + LONG_RATIOS:
            for other in SAMPLES + LONG_RATIOS:
                left, right = fraction(one), fraction(other)
                self.same(plus(one, other), pair(left + right))
                self.same(minus(one, other), pair(left - right))
                self.same(times(one, other), pair(left * right))
                self.same(compare(one, other), (left > right) - (left < right))
                if right != 0:
                    self.same(over(one, other), pair(left / right))

    def test_results_can_be_longer(self):
        self.same(times((LONG, 1), (LONG, 1)), (LONG * LONG, 1))
        self.same(over((LONG, 1), (-1, LONG)), (-LONG * LONG, 1))

    def test_over_zero(self):
        for one in ((1, 2), (0, 1), (-3, 1)):
            self.fails(InvalidOperation, over, one, (0, 1))

    def test_what_is_no_ratio(self):
        for call in (plus, minus, times, over, compare):
            for value in NO_RATIOS:
                self.fails(InvalidRatio, call, value, (1, 2))
                self.fails(InvalidRatio, call, (1, 2), value)
                self.fails(InvalidRatio, call, value, (0, 1))

    def test_texts(self):
        for ratio, text in (((-3, 2), "-3/2"), ((5, 1), "5"), ((-5, 1), "-5"), ((0, 1), "0"), ((1, 12), "1/12"),
                            ((LONG, 7), "1" + "0" * 59 + "/7")):
            self.same(ratio_text(ratio), text)

    def test_texts_of_what_is_no_ratio(self):
        for value in NO_RATIOS:
            self.fails(InvalidRatio, ratio_text, value)


class Binomials(Case):
    def test_pascal(self):
        for top in range(0, 30):
            self.same(binomial(top, 0), 1)
            for low in range(1, 35):
                above = binomial(top - 1, low - 1) + binomial(top - 1, low) if top > 0 else 0
                self.same(binomial(top, low), above)

    def test_bounds(self):
        self.same(binomial(400, 200), comb(400, 200))
        self.same([binomial(400, 400), binomial(0, 400), binomial(399, 400), binomial(400, 0)], [1, 0, 0, 1])

    def test_wrong_numbers(self):
        for value in NO_INTEGERS + (-1, 401, LONG, LONGER, -LONGEST):
            self.fails(InvalidNumber(value), binomial, value, 2)
            self.fails(InvalidNumber(value), binomial, 2, value)
            self.fails(InvalidNumber(value), binomial, value, None)
        self.fails(InvalidNumber(401), binomial, 401, 402)


class Bernoulli(Case):
    def test_the_rule(self):
        numbers = [fraction(bernoulli(number)) for number in range(61)]
        self.assertEqual(numbers[0], 1)
        for index in range(1, 60):
            self.assertEqual(sum(comb(index + 1, low) * numbers[low] for low in range(index + 1)), 0)

    def test_the_greatest_index(self):
        numbers = [Fraction(1)]
        for index in range(1, 201):
            total = sum(comb(index + 1, low) * numbers[low] for low in range(index) if numbers[low])
            numbers.append(-total / (index + 1))
        for index in (100, 198, 199, 200):
            self.same(bernoulli(index), pair(numbers[index]))

    def test_results_are_ratios(self):
        for index in range(40):
            self.assertTrue(is_ratio(bernoulli(index)))

    def test_odd_indices(self):
        self.same(bernoulli(1), (-1, 2))
        for index in range(3, 201, 14):
            self.same(bernoulli(index), (0, 1))

    def test_a_top_has_primes_above_its_index(self):
        self.same(bernoulli(12), (-691, 2730))

    def test_wrong_numbers(self):
        for value in NO_INTEGERS + (-1, 201, LONG, LONGER):
            self.fails(InvalidNumber(value), bernoulli, value)


class Module(Case):
    def test_the_functions_stand_in_the_module_itself(self):
        for name in ("is_integer", "is_ratio", "lowest", "plus", "minus", "times", "over", "compare", "ratio_text",
                     "binomial", "bernoulli"):
            self.assertEqual(getattr(ratios, name).__module__, "risewords.base.ratios")
