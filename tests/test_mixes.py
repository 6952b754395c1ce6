"""[3.1] to [3.6], the class Mix and the functions of risewords.word.mixes."""

import operator
import random
from fractions import Fraction
from math import gcd

from risewords.errors import InvalidMix, InvalidNumber, InvalidRow
from risewords.word import mixes
from risewords.word.mixes import Mix, combined, parts_of, plain_mix, ratio_between
from risewords.word.rows import is_firm, rows_of
from support import LONG, LONGER, LONGEST, NO_INTEGERS, NO_ROWS, STRANGE, Case

ZERO = Mix({})
ONE = Mix({(2, 1): (1, 2), (3,): (-1, 1)})
OTHER = Mix({(3,): (1, 1), (): (2, 3)})
SMALL = [row for weight in range(6) for row in rows_of(weight)]
NO_MIXES = STRANGE + ((), (2, 1), 1, {}, {(2,): (1, 1)}, {(2,): 1}, [((2,), (1, 1))], (((2,), (1, 1)),), Mix)
# Numbers that are no ratios, in a mix or behind a sign; tuples among them are refused as numbers.
NO_PAIRS = ((), (1,), (1, 2, 3), (2, 4), (0, 2), (0, 0), (1, 0), (1, -2), (1, True), (True, 1), (LONGER, 1),
            (1, LONGER), ("1", 2), ((1, 1), 1), (None, 1))


def drawn_mixes(many=40):
    chance = random.Random(2)
    found = [ZERO, ONE, OTHER, Mix.of(()), Mix.of((40,)), Mix({(1,): (LONG, LONGER - 1), (2, 2): 1 - LONGER})]
    for _ in range(many):
        rows = chance.sample(SMALL, chance.randint(1, 8))
        pairs = {row: Fraction(chance.choice((-5, -3, -2, -1, 1, 2, 4)), chance.randint(1, 6)) for row in rows}
        found.append(Mix({row: (pairs[row].numerator, pairs[row].denominator) for row in rows}))
    return found


def fractions(mix):
    return {row: Fraction(*ratio) for row, ratio in mix.terms.items()}


def as_terms(numbers):
    """A dict of fractions as the terms of a mix, rows ascending."""
    return {row: (numbers[row].numerator, numbers[row].denominator) for row in sorted(numbers) if numbers[row] != 0}


def summed(one, other, factor=1):
    return {row: one.get(row, 0) + factor * other.get(row, 0) for row in list(one) + list(other)}


class Made(Case):
    def test_constants(self):
        self.same([mixes.MAX_TERMS, mixes.MAX_MIXES], [4096, 200])

    def test_terms_are_ascending_ratios(self):
        mix = Mix({(3,): -2, (): (1, 2), (1, 2): LONGER - 1, (1, 1, 1): (-4, 3), (10,): 1 - LONGER})
        self.same(mix.terms, {(): (1, 2), (1, 1, 1): (-4, 3), (1, 2): (LONGER - 1, 1), (3,): (-2, 1),
                              (10,): (1 - LONGER, 1)})
        self.same(ZERO.terms, {})

    def test_a_row_as_a_mix(self):
        for row in SMALL + [(40,), (1,) * 40]:
            self.same(Mix.of(row).terms, {row: (1, 1)})
            self.assertIs(type(Mix.of(row)), Mix)
        for value in NO_ROWS:
            self.fails(InvalidRow, Mix.of, value)

    def test_4096_entries_and_one_more(self):
        rows = [row for weight in range(13) for row in rows_of(weight)]
        self.same(len(Mix({row: 1 for row in rows})), 4096)
        self.fails(InvalidMix, Mix, {row: 1 for row in rows + [(13,)]})

    def test_what_tells_no_mix(self):
        for value in [value for value in STRANGE if value != {}] + [1, (), [], "", ONE, ((2,), (1, 1)), Mix, LONGEST]:
            self.fails(InvalidMix, Mix, value)
        for row in (1, "a", "", None, True, (0,), (2, 0), (2, -1), (True,), (2, True), (False, 1), (41,), (1,) * 41, ((2,),)):
            self.fails(InvalidMix, Mix, {row: (1, 1)})
            self.fails(InvalidMix, Mix, {(2,): (1, 1), row: 1})
        for number in NO_PAIRS + STRANGE + (0, (0, 1), LONGER, -LONGER, LONGEST, ONE, [1, 2]):
            self.fails(InvalidMix, Mix, {(2,): number})
            self.fails(InvalidMix, Mix, {(3,): 1, (2,): number})

    def test_no_state_is_shared(self):
        terms = {(3,): 1, (2,): (1, 2)}
        mix = Mix(terms)
        self.same(terms, {(3,): 1, (2,): (1, 2)})
        terms[(4,)] = 7
        mix.terms[(5,)] = (1, 1)
        mix.terms.clear()
        self.same(mix.terms, {(2,): (1, 2), (3,): (1, 1)})


class Asked(Case):
    def test_properties(self):
        for mix in drawn_mixes():
            weights = [sum(row) for row in mix.terms]
            self.same(mix.top_weight, max(weights) if weights else None)
            self.same(mix.is_firm_mix, all(is_firm(row) for row in mix.terms))
            self.same(mix.is_level, len(set(weights)) < 2)
            self.same([len(mix), bool(mix)], [len(weights), weights != []])

    def test_properties_of_the_zero_mix(self):
        self.same([ZERO.top_weight, ZERO.is_firm_mix, ZERO.is_level, len(ZERO), bool(ZERO), list(ZERO)],
                  [None, True, True, 0, False, []])
        self.same([Mix.of(()).top_weight, Mix.of(()).is_firm_mix, Mix.of((1,)).is_firm_mix], [0, True, False])

    def test_properties_are_not_set(self):
        for name in ("terms", "top_weight", "is_firm_mix", "is_level"):
            with self.assertRaises(AttributeError):
                setattr(ONE, name, 1)

    def test_numbers_at_rows(self):
        for mix in drawn_mixes():
            for row in SMALL:
                self.same(mix.number_at(row), mix.terms.get(row, (0, 1)))
        for value in NO_ROWS:
            self.fails(InvalidRow, ONE.number_at, value)

    def test_parts(self):
        for mix in drawn_mixes():
            total = ZERO
            for weight in range(41):
                part = mix.part(weight)
                self.same(part.terms, {row: ratio for row, ratio in mix.terms.items() if sum(row) == weight})
                self.assertTrue(part.is_level and (part.is_firm_mix or not mix.is_firm_mix))
                total = total + part
            self.assertEqual(total, mix)
        for value in NO_INTEGERS + (-1, 41, LONG, LONGER):
            self.fails(InvalidNumber(value), ONE.part, value)

    def test_membership(self):
        for mix in drawn_mixes():
            for row in SMALL:
                self.assertIs(row in mix, row in mix.terms)
        mix = Mix({(1, 2): 1, (1,): 1, (): 1, (40,): 1})
        self.each(lambda value: value in mix, [(1, 2), (1,), (), (40,)], True)
        self.each(lambda value: value in mix, NO_ROWS + ((True, 2), (True,), [1, 2], [1], ONE, mix, 40, Mix), False)

    def test_iteration(self):
        for mix in drawn_mixes():
            self.same(list(mix), list(mix.terms.items()))
            self.same([pair for pair in mix], sorted(mix.terms.items()))
        row, ratio = list(Mix.of((2,)))[0]
        self.same([row, ratio], [(2,), (1, 1)])

    def test_texts(self):
        self.same([str(ONE), str(OTHER), str(ZERO), str(Mix.of(())), str(Mix.of((40,)))],
                  ["mix of 2 rows to the weight 3", "mix of 2 rows to the weight 3", "mix of 0 rows",
                   "mix of 1 rows to the weight 0", "mix of 1 rows to the weight 40"])


class Operators(Case):
    def test_sums_and_differences(self):
        for one in drawn_mixes(20):
            for other in drawn_mixes(20):
                self.same((one + other).terms, as_terms(summed(fractions(one), fractions(other))))
                self.same((one - other).terms, as_terms(summed(fractions(one), fractions(other), -1)))
                if one.is_firm_mix and other.is_firm_mix:
                    self.assertTrue((one + other).is_firm_mix and (one - other).is_firm_mix)

    def test_opposites(self):
        for mix in drawn_mixes():
            self.same((-mix).terms, as_terms(summed({}, fractions(mix), -1)))
            self.assertEqual([mix + -mix, -(-mix)], [ZERO, mix])

    def test_multiples(self):
        for mix in drawn_mixes():
            for number in (0, 1, -1, 2, LONGER - 1, (1, 2), (-7, 3), (0, 1), (1, 1), (LONG, LONGER - 1)):
                factor = Fraction(*number) if isinstance(number, tuple) else number
                self.same((mix * number).terms, as_terms(summed({}, fractions(mix), factor)))

    def test_no_numbers(self):
        for mix in (ONE, ZERO):
            for number in NO_PAIRS + (LONGER, -LONGER, LONGEST, (2, 1, 1), ((2, 1),), (ONE, 1)):
                self.fails(InvalidNumber(number), operator.mul, mix, number)

    def test_operands_of_another_kind(self):
        for mix in (ONE, ZERO):
            for value in NO_MIXES + (LONGER, (2,), ()):
                self.fails(TypeError, operator.add, mix, value)
                self.fails(TypeError, operator.sub, mix, value)
                self.fails(TypeError, operator.add, value, mix)
                self.fails(TypeError, operator.sub, value, mix)
                self.fails(TypeError, operator.mul, value, mix)
                if not isinstance(value, tuple) and (not isinstance(value, int) or isinstance(value, bool)):
                    self.fails(TypeError, operator.mul, mix, value)
            self.fails(TypeError, operator.mul, mix, mix)

    def test_other_operators(self):
        for call in (operator.lt, operator.le, operator.gt, operator.ge, operator.truediv, operator.floordiv,
                     operator.mod, operator.pow, operator.and_, operator.or_, operator.xor, operator.lshift,
                     operator.getitem, operator.matmul):
            for value in (1, ONE, (2, 1), None):
                self.fails(TypeError, call, ONE, value)
        for call in (operator.pos, operator.invert, abs, int):
            self.fails(TypeError, call, ONE)

    def test_operands_stay_as_they_are(self):
        one, other = ONE.terms, OTHER.terms
        found = ONE
        found += OTHER
        found -= ONE
        found *= 2
        self.assertEqual(found, OTHER * 2)
        self.same([ONE.terms, OTHER.terms], [one, other])

    def test_equality(self):
        listed = drawn_mixes()
        for one in listed:
            for other in listed:
                self.assertIs(one == other, one.terms == other.terms)
                self.assertIs(one != other, one.terms != other.terms)
        self.assertIs(Mix({(2,): 1, (3,): (1, 2)}) == Mix({(3,): (1, 2), (2,): (1, 1)}), True)

    def test_equality_with_every_value(self):
        for mix in (ONE, ZERO, Mix.of((1,))):
            for value in NO_MIXES + (mix.terms, (1,), list(mix)):
                self.assertIs(mix == value, False)
                self.assertIs(value == mix, False)
                self.assertIs(mix != value, True)

    def test_results_can_be_longer_than_what_is_passed(self):
        long = Mix({(2,): (LONGER - 1, LONG)}) * (LONGER - 1, 2)
        long = long * LONG
        self.assertEqual(fractions(long)[(2,)], Fraction((LONGER - 1) ** 2, 2))
        self.assertEqual((long + long) * (1, 2), long)
        self.assertEqual(combined(((long, 1), (long, (-1, 1)))), ZERO)
        self.same(plain_mix(long).terms, {(2,): (1, 1)})
        rows = [row for weight in range(13) for row in rows_of(weight)]
        more = Mix({row: 1 for row in rows}) + Mix.of((13,))
        self.same([len(more), more.top_weight, len(more + more), len(-more), len(more * 3)], [4097, 13] + [4097] * 3)

    def test_each_method_stands_in_the_class(self):
        for name in ("__init__", "of", "terms", "top_weight", "is_firm_mix", "is_level", "number_at", "part", "__add__",
                     "__sub__", "__neg__", "__mul__", "__eq__", "__contains__", "__len__", "__bool__", "__iter__",
                     "__str__"):
            self.assertIn(name, vars(Mix))
        self.assertIsInstance(vars(Mix)["of"], classmethod)


class Functions(Case):
    def test_parts(self):
        for mix in drawn_mixes():
            parts = parts_of(mix)
            self.assertIs(type(parts), tuple)
            self.assertTrue(all(part.is_level and part for part in parts))
            weights = [part.top_weight for part in parts]
            self.assertEqual(weights, sorted({sum(row) for row in mix.terms}))
            self.assertEqual(combined(tuple((part, 1) for part in parts)), mix)
        self.same(parts_of(ZERO), ())

    def test_plain_mixes(self):
        for mix in drawn_mixes()[1:]:
            plain = plain_mix(mix)
            tops = [ratio[0] for _, ratio in plain]
            self.assertEqual([ratio[1] for _, ratio in plain], [1] * len(mix))
            self.assertTrue(tops[0] > 0 and gcd(*tops) == 1)
            self.assertIsNotNone(ratio_between(mix, plain))
            for number in (2, -1, (-5, 7), (1, LONG)):
                self.assertEqual(plain_mix(mix * number), plain)
        self.assertEqual(plain_mix(ZERO), ZERO)

    def test_multiples_have_one_plain_mix(self):
        for one in drawn_mixes(25):
            for other in drawn_mixes(25):
                self.assertEqual(plain_mix(one) == plain_mix(other), ratio_between(one, other) is not None)

    def test_combined(self):
        chance = random.Random(4)
        listed = drawn_mixes()
        for _ in range(60):
            chosen = chance.sample(listed, chance.randint(0, 5))
            numbers = [chance.choice((0, 1, -2, (1, 3), (0, 1), (-5, 2), LONGER - 1)) for _ in chosen]
            total = {}
            for mix, number in zip(chosen, numbers):
                total = summed(total, fractions(mix), Fraction(*number) if isinstance(number, tuple) else number)
            self.same(combined(tuple(zip(chosen, numbers))).terms, as_terms(total))
        self.assertEqual(combined(()), ZERO)

    def test_200_mixes_and_one_more(self):
        self.same(combined(((ONE, 1),) * 200).terms, {(2, 1): (100, 1), (3,): (-200, 1)})
        self.fails(InvalidMix, combined, ((ONE, 1),) * 201)

    def test_what_is_no_tuple_of_pairs(self):
        good = (ONE, 1)
        for value in [value for value in NO_MIXES if value != ()] + [
                [good], good, {good[0].top_weight: good}, ([ONE, 1],), ((ONE,),), ((ONE, 1, 1),), (good, None), (ONE,)]:
            self.fails(InvalidMix, combined, value)
        for number in NO_PAIRS + (None, True, False, "1", [1, 2], LONGER, -LONGER, LONGEST, ONE):
            self.fails(InvalidMix, combined, (good, (ONE, number)))
        for value in NO_MIXES:
            self.fails(InvalidMix, combined, (good, (value, 1)))

    def test_ratios_between(self):
        for one in drawn_mixes():
            for number in (1, -1, 3, (2, 3), (-LONG, 7)):
                ratio = number if isinstance(number, tuple) else (number, 1)
                self.same(ratio_between(one, one * number), ratio if one else (1, 1))
            if one:
                self.same([ratio_between(one, ZERO), ratio_between(ZERO, one)], [None, None])
        self.same(ratio_between(ZERO, ZERO), (1, 1))
        self.same(ratio_between(ONE, Mix({(2, 1): (1, 2), (3,): (1, 1)})), None)
        self.same(ratio_between(ONE, Mix({(2, 1): (1, 2), (3,): (-1, 1), (): 1})), None)
        self.same(ratio_between(Mix.of((2,)), Mix.of((3,))), None)

    def test_what_is_no_mix_is_refused(self):
        for value in NO_MIXES:
            self.fails(InvalidMix, parts_of, value)
            self.fails(InvalidMix, plain_mix, value)
            self.fails(InvalidMix, ratio_between, value, ONE)
            self.fails(InvalidMix, ratio_between, ONE, value)
            self.fails(InvalidMix, ratio_between, value, None)

    def test_what_is_not_true(self):
        one, other = Mix({(2,): 1, (3,): 1}), Mix({(2,): -1, (3,): 1})
        self.same([len(one + other), (ONE + -ONE).top_weight], [1, None])
        self.same(ratio_between(one, other), None)
        self.assertTrue(all(ratio_between(*parts) for parts in zip(parts_of(one), parts_of(other))))
        self.assertNotEqual(plain_mix(one + one + other), plain_mix(one + one) + plain_mix(other))

    def test_the_functions_stand_in_the_module_itself(self):
        for name in ("Mix", "parts_of", "plain_mix", "combined", "ratio_between"):
            self.assertEqual(getattr(mixes, name).__module__, "risewords.word.mixes")
