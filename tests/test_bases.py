"""[14.1] to [14.6] and the functions of risewords.follow.bases."""

import random
from fractions import Fraction
from itertools import product as lists_of
from math import factorial
from time import perf_counter

from oracles import cleared, mix_of, pair, rank_of, solved
from risewords.errors import InvalidMix, InvalidNumber, InvalidOperation, TooMany
from risewords.follow import bases
from risewords.follow.bases import base_count, base_product, base_rows, coordinates, mix_of_coordinates, two_share
from risewords.follow.relations import does_follow, left_count, pairs_of
from risewords.weave.products import joined, power, woven
from risewords.word.mixes import Mix
from risewords.word.rows import dual_row, firm_rows
from support import LONG, LONGER, LONGEST, NO_INTEGERS, STRANGE, Case
from test_products import NO_MIXES
from test_relations import by_products, numbers_of

ZERO, UNIT, TWO, THREE = Mix({}), Mix.of(()), Mix.of((2,)), Mix.of((3,))
COUNTS = [1, 0, 1, 1, 1, 2, 2, 3, 4, 5, 7, 9, 12, 16, 21]
LIGHT = [row for weight in range(9) for row in firm_rows(weight)]


def bases_by_rule(weight):
    """All rows of twos and threes of a weight, of all lengths."""
    rows = [row for size in range(weight // 2 + 1) for row in lists_of((2, 3), repeat=size) if sum(row) == weight]
    return tuple(sorted(rows))


def drawn_firm(chance, weights, many=3):
    """A mix of some firm rows of some weights, with fractions."""
    rows = [row for weight in weights for row in firm_rows(weight)]
    return mix_of({row: Fraction(chance.choice((-3, -2, -1, 1, 2, 5)), chance.randint(1, 5))
                   for row in chance.sample(rows, min(many, len(rows)))})


def solver(weight):
    """What tells the coordinates of a mix of a weight, by relations that are made here, with fractions."""
    found = bases_by_rule(weight)
    rows = [row for row in firm_rows(weight) if row not in found] + list(found)
    table = [[mix.number_at(row)[0] for row in rows] for mix in (by_products(*each) for each in pairs_of(weight))]
    relations = solved(table)

    def told(mix):
        rest = cleared([Fraction(*mix.number_at(row)) for row in rows], relations)
        # All rows but the base rows can be cleared away, and no base row is.
        assert not any(rest[:len(rows) - len(found)]) and len(relations[1]) == len(rows) - len(found)
        return {row: pair(number) for row, number in zip(found, rest[len(rows) - len(found):]) if number}
    return told


class Rows(Case):
    def test_constants(self):
        self.same([bases.MAX_SOLVED, bases.MAX_BASE], [8, 24])

    def test_base_rows_by_their_rule(self):
        for weight in range(25):
            self.same(base_rows(weight), bases_by_rule(weight))
        self.same([base_rows(0), base_rows(1), base_rows(2), base_rows(3)], [((),), (), ((2,),), ((3,),)])

    def test_counts(self):
        self.same([base_count(weight) for weight in range(15)], COUNTS)
        for weight in range(25):
            self.same(base_count(weight), len(bases_by_rule(weight)))
        for weight in list(range(3, 50)) + [399, 400]:
            self.same(base_count(weight), base_count(weight - 2) + base_count(weight - 3))
        # The row of a weight and a number of threads tells which of its entries are 3.
        wanted = sum(factorial(twos + threes) // factorial(twos) // factorial(threes)
                     for threes in range(0, 134, 2) for twos in [(400 - 3 * threes) // 2] if twos >= 0)
        self.same(base_count(400), wanted)

    def test_as_many_as_are_left(self):
        for weight in range(9):
            self.same(left_count(weight), base_count(weight))

    def test_wrong_weights(self):
        for value in NO_INTEGERS + (-1, 25, 400, LONG, LONGER, LONGEST):
            self.fails(InvalidNumber(value), base_rows, value)
        for value in NO_INTEGERS + (-1, 401, LONG, LONGER, LONGEST):
            self.fails(InvalidNumber(value), base_count, value)


class Coordinates(Case):
    def test_coordinates_by_elimination(self):
        chance = random.Random(81)
        for weight in range(9):
            told = solver(weight)
            for row in firm_rows(weight):
                self.same(coordinates(Mix.of(row)), told(Mix.of(row)))
            for _ in range(4):
                mix = drawn_firm(chance, [weight], 6)
                self.same(coordinates(mix), told(mix))

    def test_the_difference_follows(self):
        chance = random.Random(82)
        for weight in range(9):
            for _ in range(3):
                mix = drawn_firm(chance, [weight], 5)
                told = coordinates(mix)
                self.assertTrue(all(row in bases_by_rule(weight) and ratio[0] != 0 for row, ratio in told.items()))
                self.assertIs(does_follow(mix - Mix(told)), True)

    def test_base_rows_do_not_hang_on_one_another(self):
        for weight in range(9):
            relations = [numbers_of(by_products(*each), weight) for each in pairs_of(weight)]
            found = [numbers_of(Mix.of(row), weight) for row in bases_by_rule(weight)]
            self.same(rank_of(relations + found), len(list(firm_rows(weight))))
            self.same(rank_of(relations) + len(found), len(list(firm_rows(weight))))

    def test_base_rows_are_their_own_coordinates(self):
        for weight in range(9):
            for row in base_rows(weight):
                self.same(coordinates(Mix({row: (-2, 7)})), {row: (-2, 7)})

    def test_sums_and_multiples(self):
        chance = random.Random(83)
        for _ in range(10):
            one, other = drawn_firm(chance, range(9), 4), drawn_firm(chance, range(9), 4)
            number = pair(Fraction(chance.choice((-4, 1, 3)), chance.randint(1, 5)))
            wanted = mix_of_coordinates(coordinates(one)) + mix_of_coordinates(coordinates(other)) * number
            self.same(coordinates(one + other * number), wanted.terms)

    def test_weights_together(self):
        mix = Mix({(): (1, 2), (2,): 3, (2, 1): (-1, 3), (4,): 1, (5,): 5, (8,): (2, 9), (3,): (1, 3)})
        found = coordinates(mix)
        self.assertEqual(list(found), sorted(found))
        parts = [coordinates(mix.part(weight)) for weight in range(9)]
        self.assertEqual(found, {row: part[row] for part in parts for row in part})
        self.same(coordinates(ZERO), {})
        self.same(coordinates(Mix({(): (-5, 3)})), {(): (-5, 3)})

    def test_what_follows_has_none(self):
        chance = random.Random(84)
        for weight in range(3, 9):
            for each in chance.sample(pairs_of(weight), min(8, len(pairs_of(weight)))):
                self.same(coordinates(by_products(*each)), {})
            mix = drawn_firm(chance, [weight], 4)
            self.same(coordinates(mix) == {}, does_follow(mix))
            shifted = mix + by_products(*chance.choice(pairs_of(weight))) * (5, 3)
            self.same(coordinates(shifted), coordinates(mix))

    def test_products(self):
        chance = random.Random(85)
        for _ in range(12):
            weight = chance.randint(2, 6)
            one, other = drawn_firm(chance, [weight], 2), drawn_firm(chance, range(9 - weight), 2)
            found = coordinates(joined(one, other))
            self.same(coordinates(woven(one, other)), found)
            left, right = mix_of_coordinates(coordinates(one)), mix_of_coordinates(coordinates(other))
            self.same(coordinates(joined(left, right)), found)
            self.same(base_product(left, right), found)

    def test_products_of_what_follows(self):
        for one, other in ((THREE - Mix.of((2, 1)), THREE - Mix.of((2, 1))), (Mix({(4,): 1, (3, 1): -4}), Mix.of((4,)))):
            for way in (joined, woven):
                self.same(coordinates(way(one, other)), {})

    def test_duals(self):
        for row in LIGHT:
            self.same(coordinates(Mix.of(row)), coordinates(Mix.of(dual_row(row))))

    def test_twos_and_single_rows(self):
        for many in range(5):
            share = Fraction(6 ** many, factorial(2 * many + 1))
            self.same(coordinates(power(TWO, many) * pair(share)), {(2,) * many: (1, 1)})
        for many, share in ((2, (2, 5)), (3, (8, 35)), (4, (24, 175))):
            self.same(coordinates(Mix.of((2 * many,))), coordinates(power(TWO, many) * share))

    def test_what_is_not_true(self):
        self.same(coordinates(Mix.of((4,))), {(2, 2): (4, 3)})
        self.same(two_share(power(THREE, 2)), None)
        self.assertNotEqual(coordinates(Mix.of((5,))), {(2, 3): (1, 1), (3, 2): (1, 1)})

    def test_long_numbers(self):
        mix = Mix({(5,): (LONGER - 1, LONG), (4, 1): (1, LONGER - 1)})
        self.same(coordinates(mix), solver(5)(mix))

    def test_wrong_mixes(self):
        for value in NO_MIXES:
            self.fails(InvalidMix, coordinates, value)
            self.fails(InvalidMix, two_share, value)
        for mix in (Mix.of((1,)), Mix.of((1, 2)), Mix({(9,): 1, (1, 2): 1}), Mix.of((1, 39)), Mix({(): 1, (1, 1): 2})):
            self.fails(InvalidOperation, coordinates, mix)
            self.fails(InvalidOperation, two_share, mix)
        for mix in (Mix.of((9,)), Mix({(40,): 1, (2,): 1}), Mix.of((2, 7))):
            self.fails(TooMany(8), coordinates, mix)
        self.fails(TooMany(8), two_share, Mix.of((10,)))
        self.fails(TooMany(8), two_share, Mix({(9,): 1, (2, 7): -1}))
        self.fails(InvalidOperation, two_share, Mix({(9,): 1, (10,): 1}))
        self.fails(InvalidOperation, two_share, Mix({(): 1, (2,): 1}))


class Told(Case):
    def test_mixes_of_coordinates(self):
        told = {(2,) * 12: (1, 3), (): (-4, 1), (3, 2): (0, 1), (3,): (LONGER - 1, LONG)}
        self.same(mix_of_coordinates(told).terms, {(): (-4, 1), (2,) * 12: (1, 3), (3,): (LONGER - 1, LONG)})
        self.same(mix_of_coordinates({}).terms, {})
        self.same(mix_of_coordinates({(3,): (0, 1)}).terms, {})
        every = {row: (1, 2) for weight in range(25) for row in base_rows(weight)}
        self.same(len(mix_of_coordinates(every)), len(every))
        self.same(told[3, 2], (0, 1))

    def test_what_tells_nothing(self):
        wrong = [{(2,): 1}, {(2,): (2, 2)}, {(2,): [1, 1]}, {(2,): (1, True)}, {(2,): (LONGER, 1)}, {(2,): (1, LONGER)},
                 {(2,): None}, {(2,): (0, 2)}, {(4,): (1, 1)}, {(1,): (1, 1)}, {(2, 1): (1, 1)}, {(2, True): (1, 1)},
                 {(2,) * 13: (1, 1)}, {(3,) * 8 + (2,): (1, 1)}, {2: (1, 1)}, {"(2,)": (1, 1)}, {None: (1, 1)},
                 {(2.0,): (1, 1)}, {(2,): (1, 1), (3,): 1}, {((2,),): (1, 1)}, [((2,), (1, 1))], (), TWO, [], 1,
                 {(place,): (1, 1) for place in range(4097)}, {(2,): (1, 0)}, {(2,): (1, -1)}, {(2,): (1, 1, 1)}]
        for value in wrong + [value for value in STRANGE if value != {}]:
            self.fails(InvalidOperation, mix_of_coordinates, value)


class Products(Case):
    def test_products_of_base_rows(self):
        chance = random.Random(86)
        for _ in range(8):
            weight = chance.randint(2, 6)
            rows = list(base_rows(weight))
            one = mix_of({row: Fraction(chance.randint(1, 5), 3) for row in rows})
            rest = [row for each in range(9 - weight) for row in base_rows(each)]
            other = mix_of({row: chance.choice((-2, 1)) for row in chance.sample(rest, min(3, len(rest)))})
            self.same(base_product(one, other), coordinates(joined(one, other)))
            self.same(base_product(one, other), base_product(other, one))
        self.same(base_product(UNIT, THREE), {(3,): (1, 1)})
        self.same(base_product(ZERO, THREE), {})

    def test_heavy_and_zero_products(self):
        heavy = Mix.of((2,) * 20)
        self.same([base_product(ZERO, heavy), base_product(heavy, ZERO)], [{}, {}])
        for one, other in ((heavy, UNIT), (UNIT, heavy), (Mix.of((3, 3)), THREE), (Mix({(): 1, (2,) * 4: 1}), TWO)):
            self.fails(TooMany(8), base_product, one, other)
        self.same(base_product(Mix.of((3, 3)), TWO), coordinates(joined(Mix.of((3, 3)), TWO)))

    def test_wrong_mixes(self):
        bad = Mix.of((4,))
        for value in NO_MIXES:
            self.fails(InvalidMix, base_product, value, bad)
            self.fails(InvalidMix, base_product, bad, value)
            self.fails(InvalidMix, base_product, value, None)
        for mix in (bad, Mix.of((1,)), Mix.of((2, 1)), Mix({(2,): 1, (2, 4): 1}), Mix.of((40,))):
            for other in (TWO, UNIT, ZERO, Mix.of((2,) * 20)):
                self.fails(InvalidOperation, base_product, mix, other)
                self.fails(InvalidOperation, base_product, other, mix)


class Shares(Case):
    def test_shares_follow(self):
        for weight in (0, 2, 4):
            for row in firm_rows(weight):
                share = two_share(Mix.of(row))
                self.assertIs(does_follow(Mix.of(row) - power(TWO, weight // 2) * share), True)
        chance = random.Random(87)
        for weight, other in ((6, (3, 3)), (8, (3, 3, 2))):
            relations = [numbers_of(by_products(*each), weight) for each in pairs_of(weight)]
            left, twos = solved(relations), numbers_of(power(TWO, weight // 2), weight)
            for row in chance.sample(list(firm_rows(weight)), 8) + [other, (weight,)]:
                share = two_share(Mix.of(row))
                both = [cleared(numbers, left) for numbers in (twos, numbers_of(Mix.of(row), weight))]
                self.assertIs(share is None, rank_of(both) == 2)
                if share:
                    self.assertIs(does_follow(Mix.of(row) - power(TWO, weight // 2) * share), True)

    def test_shares_of_powers_and_of_what_follows(self):
        for many in range(5):
            for number in ((1, 1), (-7, 3), (LONG, 7)):
                mix = power(TWO, many) * number
                self.same(two_share(mix), number)
                if many > 1:
                    shifted = mix + by_products((2,), (2,) + (1,) * (2 * many - 4))
                    self.same(two_share(shifted), number)

    def test_edges(self):
        self.same([two_share(ZERO), two_share(UNIT), two_share(TWO), two_share(Mix.of((2, 2)))],
                  [(0, 1), (1, 1), (1, 1), (3, 10)])
        self.same([two_share(THREE), two_share(Mix.of((5,))), two_share(Mix.of((2, 5)))], [None, None, None])
        self.same([two_share(THREE - Mix.of((2, 1))), two_share(by_products((2,), (3,))), two_share(by_products((2,), (2,))),
                   two_share(by_products((3,), (5,)))], [(0, 1)] * 4)
        self.same([two_share(Mix.of((3, 3))), two_share(power(THREE, 2)), two_share(Mix.of((3, 3, 2)))], [None] * 3)

    def test_known_shares(self):
        for many, row, wanted in ((2, (4,), (2, 5)), (3, (6,), (8, 35)), (4, (8,), (24, 175)), (4, (3, 1, 3, 1), (1, 1400))):
            self.same(two_share(Mix.of(row)), wanted)
            self.same(coordinates(Mix.of(row) - power(TWO, many) * wanted), {})


class Whole(Case):
    def test_little_time(self):
        mix, start = Mix({(3, 1, 3): 1, (2, 1, 1, 3): (1, 2)}), perf_counter()
        for _ in range(10):
            coordinates(mix)
            two_share(mix)
            base_product(Mix.of((2, 2)), THREE)
        self.assertLess(perf_counter() - start, 1)

    def test_the_functions_stand_in_the_module_itself(self):
        for name in ("base_rows", "base_count", "coordinates", "mix_of_coordinates", "base_product", "two_share"):
            self.assertEqual(getattr(bases, name).__module__, "risewords.follow.bases")
