"""[5.1] to [5.7] and the functions of risewords.weave.lyndon."""

import random
from fractions import Fraction
from itertools import islice
from math import factorial
from time import perf_counter

from risewords.errors import InvalidMix, InvalidNumber, InvalidRow, TooMany, UnknownName
from risewords.weave import lyndon
from risewords.weave.lyndon import factors_of, is_lyndon, lyndon_count, lyndon_form, lyndon_rows, mix_of_form
from risewords.weave.products import WAYS, product
from risewords.word.mixes import Mix
from risewords.word.rows import is_firm, rows_of, word_of
from support import LONG, LONGER, NO_INTEGERS, NO_ROWS, STRANGE, Case
from test_products import NO_MIXES, NO_WAYS, drawn

SMALL = [row for weight in range(9) for row in rows_of(weight)]
# Lyndon rows of the weight 40.
HEAVY = [(40,), (39, 1), (2,) + (1,) * 38, (20, 19, 1), (21, 19)]


def lyndon_by_rule(row):
    word = word_of(row)
    return word != "" and all(word < word[place:] for place in range(1, len(word)))


def tuple_product(rows, way):
    mix = Mix.of(())
    for row in rows:
        mix = product(mix, Mix.of(row), way=way)
    return mix


def lyndon_tuples(weight):
    """All Lyndon tuples of a weight, made by choosing rows whose words do not ascend."""
    rows = [row for each in range(1, weight + 1) for row in rows_of(each) if lyndon_by_rule(row)]
    rows.sort(key=word_of, reverse=True)

    def extended(start, left):
        if left == 0:
            yield ()
        for place in range(start, len(rows)):
            if sum(rows[place]) <= left:
                for rest in extended(place, left - sum(rows[place])):
                    yield (rows[place], *rest)
    return list(extended(0, weight))


class Lyndon(Case):
    def test_constants(self):
        self.same([lyndon.MAX_LISTED, lyndon.MAX_FORMED], [14, 10])

    def test_lyndon_rows_by_their_rule(self):
        for row in SMALL:
            self.assertIs(is_lyndon(row), lyndon_by_rule(row))
            if is_lyndon(row):
                self.assertTrue(row == (1,) or is_firm(row))
        self.each(is_lyndon, HEAVY, True)
        self.each(is_lyndon, [(1,) * 40, (20, 20), (19, 21), (39, 1)[::-1]], False)

    def test_no_rows(self):
        self.each(is_lyndon, NO_ROWS + ((41,), (40, 1), [3], (True,), (3, True), (10 ** 4000,), Mix.of((3,))), False)

    def test_listed_rows(self):
        for weight in range(1, 15):
            listed = list(lyndon_rows(weight))
            self.same(listed, [row for row in rows_of(weight) if lyndon_by_rule(row)])
            self.same(listed, sorted(listed))
            self.same(len(listed), lyndon_count(weight))

    def test_weights_14_and_15(self):
        self.same([len(list(lyndon_rows(14))), len(list(lyndon_rows(13)))], [1161, 630])
        self.same(list(islice(lyndon_rows(14), 1)), [(2,) + (1,) * 12])
        for value in NO_INTEGERS + (0, -1, 15, True, LONG, LONGER):
            waiting = lyndon_rows(value)
            self.fails(InvalidNumber(value), next, waiting)

    def test_listing_takes_little_time(self):
        start = perf_counter()
        for _ in range(20):
            list(lyndon_rows(14))
        self.assertLess(perf_counter() - start, 1)

    def test_counts(self):
        self.same([lyndon_count(weight) for weight in range(1, 15)],
                  [1, 1, 2, 3, 6, 9, 18, 30, 56, 99, 186, 335, 630, 1161])
        # All words of a length over two letters are told by the Lyndon words of its divisors.
        for weight in range(2, 201):
            parts = [part for part in range(2, weight + 1) if weight % part == 0]
            self.assertEqual(2 + sum(part * lyndon_count(part) for part in parts), 2 ** weight)

    def test_wrong_counts(self):
        self.assertEqual(lyndon_count(200).bit_length(), 193)
        for value in NO_INTEGERS + (0, -1, 201, LONG, LONGER):
            self.fails(InvalidNumber(value), lyndon_count, value)

    def test_what_is_not_true(self):
        self.same([is_firm((2, 2)), is_lyndon((2, 2)), is_lyndon((3,)[::-1])], [True, False, True])
        self.same([sum(factor) for factor in factors_of((1, 2))], [1, 2])


class Factors(Case):
    def test_factors_by_their_rule(self):
        for row in SMALL:
            factors = factors_of(row)
            self.assertIs(type(factors), tuple)
            self.assertEqual(tuple(entry for factor in factors for entry in factor), row)
            words = [word_of(factor) for factor in factors]
            self.assertTrue(all(lyndon_by_rule(factor) for factor in factors))
            self.assertEqual(words, sorted(words, reverse=True))

    def test_each_row_has_its_factors_in_just_one_way(self):
        for weight in range(8):
            tuples = lyndon_tuples(weight)
            self.assertEqual(sorted(factors_of(row) for row in rows_of(weight)), sorted(tuples))

    def test_heavy_rows(self):
        self.same([factors_of((1,) * 40), factors_of((20, 20)), factors_of((1, 39))],
                  [((1,),) * 40, ((20,), (20,)), ((1,), (39,))])
        self.same([factors_of(row) for row in HEAVY], [(row,) for row in HEAVY])

    def test_no_rows(self):
        for value in NO_ROWS:
            self.fails(InvalidRow, factors_of, value)


class Leading(Case):
    def test_the_row_leads_the_product_of_its_factors(self):
        for row in SMALL:
            factors = factors_of(row)
            number = 1
            for factor in sorted(set(factors)):
                number *= factorial(factors.count(factor))
            for way in WAYS:
                found = tuple_product(factors, way)
                self.same(found.number_at(row), (number, 1))
                for other in [other for other, _ in found if other != row]:
                    if way == "joined" and len(other) != len(row):
                        self.assertLess(len(other), len(row))
                    else:
                        self.assertLess(word_of(other), word_of(row))


class Forms(Case):
    def check(self, mix, way):
        """The form tells the mix, by its definition; it is the form of the mix that it tells."""
        form = lyndon_form(mix, way=way)
        total = {}
        for rows, ratio in form.items():
            words = [word_of(row) for row in rows]
            self.assertTrue(all(lyndon_by_rule(row) for row in rows) and words == sorted(words, reverse=True))
            for row, (count, _) in tuple_product(rows, way):
                total[row] = total.get(row, 0) + count * Fraction(*ratio)
        wanted = {row: (total[row].numerator, total[row].denominator) for row in sorted(total) if total[row]}
        self.same(mix.terms, wanted)
        self.assertEqual(list(form), sorted(form))
        self.assertTrue(all(ratio[0] != 0 for ratio in form.values()))
        return form

    def test_forms_of_rows(self):
        for row in [row for row in SMALL if sum(row) < 8]:
            for way in WAYS:
                form = self.check(Mix.of(row), way)
                self.assertTrue(all(sum(map(sum, rows)) == sum(row) for rows in form))
                self.assertEqual(mix_of_form(form, way=way), Mix.of(row))
                if is_lyndon(row):
                    self.same(form, {(row,): (1, 1)})

    def test_forms_of_mixes(self):
        chance = random.Random(12)
        for weight in (0, 1, 3, 5, 7, 9, 10):
            for _ in range(4):
                mix = drawn(chance, weight, 5)
                for way in WAYS:
                    form = self.check(mix, way)
                    self.assertEqual(mix_of_form(form, way=way), mix)

    def test_mixes_of_forms(self):
        chance = random.Random(13)
        for weight in (0, 1, 2, 4, 6, 8, 10):
            tuples = [rows for each in range(weight + 1) for rows in lyndon_tuples(each)]
            for _ in range(4):
                chosen = chance.sample(tuples, min(4, len(tuples)))
                form = {rows: (chance.choice((-5, -1, 2, 7)), chance.choice((1, 3))) for rows in sorted(chosen)}
                for way in WAYS:
                    mix = mix_of_form({rows: form[rows] for rows in chosen}, way=way)
                    self.same(lyndon_form(mix, way=way), form)

    def test_each_tuple_is_a_product(self):
        for weight in range(7):
            for rows in lyndon_tuples(weight):
                for way in WAYS:
                    self.assertEqual(mix_of_form({rows: (1, 1)}, way=way), tuple_product(rows, way))

    def test_forms_multiply_as_polynomials(self):
        one, other = Mix({(1, 2): 1, (1, 1): (-1, 2)}), Mix({(2, 1): 3, (1,): (1, 5)})
        for way in WAYS:
            wanted = {}
            for left, factor in lyndon_form(one, way=way).items():
                for right, number in lyndon_form(other, way=way).items():
                    rows = tuple(sorted(left + right, key=word_of, reverse=True))
                    wanted[rows] = wanted.get(rows, 0) + Fraction(*factor) * Fraction(*number)
            found = lyndon_form(product(one, other, way=way), way=way)
            self.assertEqual({rows: Fraction(*ratio) for rows, ratio in found.items()},
                             {rows: number for rows, number in wanted.items() if number})

    def test_the_zero_mix_and_the_unit(self):
        for way in WAYS:
            self.same([lyndon_form(Mix({}), way=way), mix_of_form({}, way=way).terms], [{}, {}])
            self.same(lyndon_form(Mix.of(()) * (-2, 3), way=way), {(): (-2, 3)})
            self.same(mix_of_form({(): (-2, 3)}, way=way).terms, {(): (-2, 3)})

    def test_the_default_way(self):
        mix, form = Mix.of((1, 1)), {((1,), (1,)): (1, 2)}
        self.same(lyndon_form(mix), lyndon_form(mix, way="joined"))
        self.assertEqual(mix_of_form(form), mix_of_form(form, way="joined"))
        self.assertNotEqual(mix_of_form(form), mix_of_form(form, way="laid"))

    def test_weights_10_and_11(self):
        full = Mix({row: len(row) + 1 for weight in range(11) for row in rows_of(weight)}) * (1, 3)
        for way in WAYS:
            self.assertEqual(mix_of_form(lyndon_form(full, way=way), way=way), full)
            self.fails(TooMany(10), lyndon_form, full + Mix.of((11,)), way=way)
            self.fails(TooMany(10), lyndon_form, Mix.of((1,) * 11), way=way)
            self.fails(TooMany(10), mix_of_form, {((11,),): (1, 1)}, way=way)
            self.fails(TooMany(10), mix_of_form, {(): (1, 1), ((1,), (10,)): (1, 1)}, way=way)
            self.fails(TooMany(10), mix_of_form, {((1,),) * 41: (1, 1)}, way=way)
            self.same(mix_of_form({((1,), (9,)): (1, 1)}, way=way).top_weight, 10)

    def test_long_integers(self):
        mix = Mix({(1, 1): (LONGER - 1, LONG), (1, 2): (LONG, LONGER - 1), (2, 1, 1): 1 - LONGER})
        for way in WAYS:
            self.check(mix, way)
            form = {((1,), (1,)): (LONGER - 1, LONG), ((2, 1), (2,), (2,)): (1 - LONGER, 1)}
            self.same(lyndon_form(mix_of_form(form, way=way), way=way), form)
            self.assertEqual(mix_of_form({((2,),): (LONG, 1)}, way=way), Mix({(2,): LONG}))

    def test_arguments_stay_as_they_are(self):
        form = {((2,),): (1, 1), ((1,),): (1, 2)}
        mix = mix_of_form(form)
        self.same(form, {((2,),): (1, 1), ((1,),): (1, 2)})
        found = lyndon_form(mix)
        self.same(found, {((1,),): (1, 2), ((2,),): (1, 1)})
        found.clear()
        self.same(lyndon_form(mix), {((1,),): (1, 2), ((2,),): (1, 1)})

    def test_wrong_mixes_and_ways(self):
        for value in NO_MIXES:
            self.fails(InvalidMix, lyndon_form, value)
            self.fails(InvalidMix, lyndon_form, value, way="mixed")
        for way in NO_WAYS:
            self.fails(UnknownName(way), lyndon_form, Mix.of((11,)), way=way)
            self.fails(UnknownName(way), mix_of_form, {((11,),): (1, 1)}, way=way)

    def test_wrong_forms(self):
        for value in [value for value in STRANGE if value != {}] + [1, (), [], Mix({}), ((((1,),), (1, 1)),), LONG]:
            self.fails(InvalidMix, mix_of_form, value)
            self.fails(InvalidMix, mix_of_form, value, way="mixed")
        for rows in ((1,), (2, 1), 1, "xy", "", None, True, ((1, 1),), ((2, 2),), ((),), ((), (1,)), ((2,), (1,)),
                     ((3,), (2,)), ((2, 1), (2,), (3,))[::-1], ((True,),), ((2, True),), ((41,),), ((1,), 1), (None,),
                     ((1, 2),), ((1,), (2, 1), (2,), (2, 1)), ("y",), ((LONGER,),)):
            self.fails(InvalidMix, mix_of_form, {rows: (1, 1)})
            self.fails(InvalidMix, mix_of_form, {rows: (1, 1)}, way="mixed")
            self.fails(InvalidMix, mix_of_form, {((11,),): (1, 1), rows: (1, 1)})
        for ratio in STRANGE + (1, 0, -1, (0, 1), (2, 2), (1, -1), (LONGER, 1), (1, LONGER), (1, True), [1, 1], Mix({})):
            self.fails(InvalidMix, mix_of_form, {((1,),): ratio})
            self.fails(InvalidMix, mix_of_form, {((11,),): (1, 1), ((1,),): ratio}, way="mixed")


class Module(Case):
    def test_the_functions_stand_in_the_module_itself(self):
        for name in ("is_lyndon", "lyndon_rows", "lyndon_count", "factors_of", "lyndon_form", "mix_of_form"):
            self.assertEqual(getattr(lyndon, name).__module__, "risewords.weave.lyndon")
