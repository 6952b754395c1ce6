"""[0.12], [4.1] to [4.7] and the functions of risewords.weave.products."""

import random
from fractions import Fraction
from itertools import combinations
from math import comb, factorial

from risewords.errors import InvalidMix, InvalidNumber, InvalidRow, TooMany, UnknownName
from risewords.weave import products
from risewords.weave.products import WAYS, is_product, joined, laid, lay_count, power, product, woven
from risewords.word.mixes import Mix
from risewords.word.rows import firm_rows, is_firm, row_of, rows_of, word_of
from support import LONG, LONGER, NO_INTEGERS, NO_ROWS, STRANGE, Case

ZERO, UNIT = Mix({}), Mix.of(())
SMALL = [row for weight in range(5) for row in rows_of(weight)]
NO_MIXES = STRANGE + ((), (2, 1), 1, {}, {(2,): (1, 1)})
NO_WAYS = tuple(value for value in STRANGE + (
    "Joined", "laid ", "mixed", "lay", ["joined"], ("joined",), WAYS, 0, LONG, ZERO, "joinedwoven"))
NAMED = {"laid": laid, "joined": joined, "woven": woven}


def laid_ways(one, other):
    """All ways to lay two sequences into one, as lists: the places of the first one are chosen."""
    size = len(one) + len(other)
    for places in combinations(range(size), len(one)):
        left, right = iter(one), iter(other)
        yield [next(left) if place in places else next(right) for place in range(size)]


def joined_ways(one, other):
    """The same, some entries of both falling together: those in the first and in the second one are chosen."""
    for size in range(max(len(one), len(other)), len(one) + len(other) + 1):
        for firsts in combinations(range(size), len(one)):
            for seconds in combinations(range(size), len(other)):
                if len(set(firsts) | set(seconds)) == size:
                    left, right = dict(zip(firsts, one)), dict(zip(seconds, other))
                    yield [left.get(place, 0) + right.get(place, 0) for place in range(size)]


def counts(one, other, way):
    """The product of two rows by [0.12]: a dict from rows to the numbers of ways."""
    found = {}
    if way == "woven":
        rows = [row_of("".join(word)) for word in laid_ways(word_of(one), word_of(other))]
    else:
        rows = [tuple(row) for row in (laid_ways if way == "laid" else joined_ways)(one, other)]
    for row in rows:
        found[row] = found.get(row, 0) + 1
    return {row: found[row] for row in sorted(found)}


def terms(numbers):
    return {row: (number, 1) for row, number in numbers.items()}


def drawn(chance, weight, many=3):
    """A mix of a few rows of weights to the told one."""
    rows = [row for each in range(weight + 1) for row in rows_of(each)]
    numbers = {}
    for row in chance.sample(rows, min(many, len(rows))):
        number = Fraction(chance.choice((-3, -1, 1, 2)), chance.randint(1, 4))
        numbers[row] = (number.numerator, number.denominator)
    return Mix(numbers)


class Rows(Case):
    def test_constants(self):
        self.same([products.WAYS, products.MAX_JOINT], [("laid", "joined", "woven"), 12])

    def test_products_by_counting_ways(self):
        for one in SMALL:
            for other in SMALL:
                for way in WAYS:
                    wanted = terms(counts(one, other, way))
                    self.same(product(Mix.of(one), Mix.of(other), way=way).terms, wanted)
                    self.same(NAMED[way](Mix.of(one), Mix.of(other)).terms, wanted)

    def test_heavier_products(self):
        for one, other in (((2, 1, 3), (1, 1, 4)), ((1,) * 6, (1,) * 6), ((6,), (1, 5)), ((12,), ()), ((), (3, 9)),
                           ((11,), (1,)), ((1,), (2,) * 5 + (1,)), ((5, 1), (2, 2, 2))):
            for way in WAYS:
                self.same(product(Mix.of(one), Mix.of(other), way=way).terms, terms(counts(one, other, way)))

    def test_the_row_without_entries(self):
        for row in SMALL + [(12,), (1,) * 12]:
            for way in WAYS:
                self.same(product(Mix.of(row), UNIT, way=way).terms, {row: (1, 1)})
                self.same(product(UNIT, Mix.of(row), way=way).terms, {row: (1, 1)})

    def test_numbers_weights_and_lengths(self):
        for one in SMALL:
            for other in SMALL:
                for way in WAYS:
                    found = product(Mix.of(one), Mix.of(other), way=way)
                    for row, (top, bottom) in found:
                        self.assertTrue(top > 0 and bottom == 1)
                        self.assertEqual(sum(row), sum(one) + sum(other))
                        if way == "joined":
                            self.assertTrue(max(len(one), len(other)) <= len(row) <= len(one) + len(other))
                        else:
                            self.assertEqual(len(row), len(one) + len(other))

    def test_firm_rows_have_firm_products(self):
        firm = [row for weight in range(6) for row in firm_rows(weight)]
        for one in firm:
            for other in firm:
                for way in WAYS:
                    self.assertTrue(product(Mix.of(one), Mix.of(other), way=way).is_firm_mix)

    def test_one_with_a_firm_row(self):
        for row in [row for weight in range(2, 9) for row in firm_rows(weight)]:
            together, letters = joined(Mix.of((1,)), Mix.of(row)), woven(Mix.of((1,)), Mix.of(row))
            self.same([together.is_firm_mix, letters.is_firm_mix], [False, False])
            self.assertTrue((together - letters).is_firm_mix)

    def test_what_is_not_true(self):
        self.assertNotIn((2, 1, 3), joined(Mix.of((2, 1)), Mix.of((3,))).part(7))
        self.assertNotIn((6,), joined(Mix.of((2, 1)), Mix.of((3,))))
        self.assertIn((5,), joined(Mix.of((2,)), Mix.of((3,))))
        self.assertTrue(any(top > 1 for _, (top, _) in woven(Mix.of((2,)), Mix.of((3,)))))
        self.assertNotEqual(joined(Mix.of((1,)), Mix.of((1,))), woven(Mix.of((1,)), Mix.of((1,))))


class Mixes(Case):
    def test_products_are_led_on_to_mixes(self):
        chance = random.Random(6)
        for _ in range(15):
            one, other = drawn(chance, 4), drawn(chance, 5)
            for way in WAYS:
                total = {}
                for row, left in one:
                    for column, right in other:
                        for made, count in counts(row, column, way).items():
                            total[made] = total.get(made, 0) + count * Fraction(*left) * Fraction(*right)
                wanted = {row: (total[row].numerator, total[row].denominator) for row in sorted(total) if total[row]}
                self.same(product(one, other, way=way).terms, wanted)

    def test_commutative_associative_and_along_with_sums(self):
        chance = random.Random(7)
        for _ in range(15):
            one, other, third = drawn(chance, 3), drawn(chance, 4), drawn(chance, 4)
            for way in WAYS:
                def by(left, right):
                    return product(left, right, way=way)
                self.assertEqual(by(one, other), by(other, one))
                self.assertEqual(by(by(one, other), third), by(one, by(other, third)))
                self.assertEqual(by(one, other + third), by(one, other) + by(one, third))
                self.assertEqual(by(one * (2, 3), other), by(one, other) * (2, 3))

    def test_the_zero_mix(self):
        heavy = Mix.of((40,))
        for way in WAYS:
            for mix in (ZERO, UNIT, heavy):
                self.same([product(ZERO, mix, way=way).terms, product(mix, ZERO, way=way).terms], [{}, {}])

    def test_the_default_way(self):
        one, other = Mix.of((1,)), Mix.of((2,))
        self.assertEqual(product(one, other), joined(one, other))
        self.assertEqual(power(one, 2), joined(one, one))
        self.same([lay_count((2, 1), (1,)), lay_count((2, 1), (1,), way="joined")], [5, 5])
        self.same(is_product((1,), (1,), {(1, 1): 2, (2,): 1}), True)

    def test_the_arguments_stay_as_they_are(self):
        one, other = Mix({(2,): (1, 3), (1, 1): 2}), Mix({(3, 1): -1, (): (1, 2)})
        left, right = one.terms, other.terms
        for way in WAYS:
            found = product(one, other, way=way)
            found.terms.clear()
            self.assertEqual(product(one, other, way=way), found)
        self.same([one.terms, other.terms], [left, right])

    def test_weights_to_twelve_and_thirteen(self):
        full = Mix({row: 1 for weight in range(7) for row in rows_of(weight)})
        for way in WAYS:
            found = product(full, full, way=way)
            self.assertEqual([found.top_weight, found.number_at(())], [12, (1, 1)])
            self.assertTrue(len(found) > 3000)
            self.fails(TooMany(12), product, full, Mix.of((7,)), way=way)
            self.fails(TooMany(12), product, Mix.of((7,)), full, way=way)
            self.fails(TooMany(12), product, Mix.of((13,)), UNIT, way=way)
            self.same(product(Mix.of((12,)), UNIT, way=way).terms, {(12,): (1, 1)})
        for call in NAMED.values():
            self.fails(TooMany(12), call, Mix({(6, 1): 1, (1,): 1}), Mix({(6,): 1, (): 1}))
            self.same(call(ZERO, Mix.of((40,))).terms, {})

    def test_no_mixes(self):
        heavy = Mix.of((40,))
        for value in NO_MIXES:
            for call in (laid, joined, woven, product):
                self.fails(InvalidMix, call, value, heavy)
                self.fails(InvalidMix, call, heavy, value)
            self.fails(InvalidMix, product, value, heavy, way="mixed")
            self.fails(InvalidMix, product, heavy, value, way="mixed")

    def test_no_ways(self):
        heavy = Mix.of((40,))
        for way in NO_WAYS:
            self.fails(UnknownName(way), product, heavy, heavy, way=way)
            self.fails(UnknownName(way), product, ZERO, ZERO, way=way)


class Powers(Case):
    def test_powers_are_products(self):
        chance = random.Random(8)
        for weight in range(4):
            for _ in range(4):
                mix, wanted = drawn(chance, weight), UNIT
                for many in range(12 // max(weight, 1) + 1):
                    for way in WAYS:
                        if many < 5:
                            wanted = UNIT
                            for _ in range(many):
                                wanted = product(wanted, mix, way=way)
                            self.assertEqual(power(mix, many, way=way), wanted)

    def test_powers_of_one(self):
        for many in range(13):
            for way in ("laid", "woven"):
                self.same(power(Mix.of((1,)), many, way=way).terms, {(1,) * many: (factorial(many), 1)})
            wanted = {}
            for row in rows_of(many):
                number = factorial(many)
                for entry in row:
                    number = number // factorial(entry)
                wanted[row] = (number, 1)
            self.same(power(Mix.of((1,)), many).terms, wanted)

    def test_the_power_zero(self):
        for mix in (ZERO, UNIT, Mix.of((40,)), Mix({(1,): (1, 7)})):
            for way in WAYS:
                self.same(power(mix, 0, way=way).terms, {(): (1, 1)})

    def test_the_zero_mix_and_numbers(self):
        for way in WAYS:
            for many in range(1, 13):
                self.same(power(ZERO, many, way=way).terms, {})
                self.same(power(UNIT * (-2, 3), many, way=way).terms, {(): ((-2) ** many, 3 ** many)})

    def test_weights_to_twelve_and_above(self):
        for many, weight in ((1, 12), (2, 6), (3, 4), (4, 3), (5, 2), (6, 2), (12, 1)):
            for way in WAYS:
                self.same(power(Mix.of((weight,)), many, way=way).top_weight, many * weight)
        for many, weight in ((1, 13), (2, 7), (3, 5), (5, 3), (12, 2), (7, 2), (1, 40)):
            self.fails(TooMany(12), power, Mix({(weight,): 1, (): 1}), many)
        self.same(power(ZERO, 12).terms, {})

    def test_wrong_arguments(self):
        heavy = Mix.of((40,))
        for value in NO_MIXES:
            self.fails(InvalidMix, power, value, 13, way="mixed")
        for many in NO_INTEGERS + (-1, 13, LONG, LONGER):
            self.fails(InvalidNumber(many), power, heavy, many)
            self.fails(InvalidNumber(many), power, heavy, many, way="mixed")
        for way in NO_WAYS:
            self.fails(UnknownName(way), power, heavy, 12, way=way)


class Counts(Case):
    def test_counts_of_products(self):
        for one in SMALL:
            for other in SMALL:
                for way in WAYS:
                    self.same(lay_count(one, other, way=way), sum(counts(one, other, way).values()))

    def test_heavy_rows(self):
        ones = (1,) * 40
        self.same([lay_count(ones, ones, way=way) for way in ("laid", "woven")], [comb(80, 40)] * 2)
        self.same(lay_count(ones, ones), sum(comb(40, j) ** 2 * 2 ** j for j in range(41)))
        self.same([lay_count((40,), ones, way=way) for way in WAYS], [41, 81, comb(80, 40)])
        self.same([lay_count((), ones, way=way) for way in WAYS], [1, 1, 1])

    def test_wrong_arguments(self):
        for value in NO_ROWS:
            self.fails(InvalidRow, lay_count, value, (2,))
            self.fails(InvalidRow, lay_count, (2,), value)
            self.fails(InvalidRow, lay_count, value, (2,), way="mixed")
            self.fails(InvalidRow, lay_count, (2,), value, way="mixed")
        for way in NO_WAYS:
            self.fails(UnknownName(way), lay_count, (2,), (2,), way=way)


class Judged(Case):
    def test_right_products(self):
        for one in SMALL:
            for other in SMALL:
                for way in WAYS:
                    numbers = counts(one, other, way)
                    turned = {row: numbers[row] for row in reversed(list(numbers))}
                    mixed = {row: (number, 1) if sum(row[:1]) % 2 else number for row, number in numbers.items()}
                    for value in (numbers, terms(numbers), turned, terms(turned), mixed):
                        self.assertIs(is_product(one, other, value, way=way), True)

    def test_wrong_products(self):
        right = {(1, 2): 1, (2, 1): 2}
        self.assertIs(is_product((1,), (2,), right, way="woven"), True)
        wrong = [{}, {(1, 2): 1}, {(2, 1): 2}, {**right, (3,): 0}, {**right, (3,): 1}, {(1, 2): 2, (2, 1): 1},
                 {(1, 2): True, (2, 1): 2}, {(1, 2): (1, True), (2, 1): 2}, {(1, 2): (True, 1), (2, 1): 2},
                 {(1, 2): (2, 2), (2, 1): 2}, {(1, 2): [1, 1], (2, 1): 2}, {(1, 2): "1", (2, 1): 2},
                 {(1, 2): 1, (2, 1): (4, 2)}, {(1, 2): 1, (2, 1): -2}, {(1, 2): 1, (2, 1): (-2, -1)},
                 {(True, 2): 1, (2, 1): 2}, {(1, 2): 1, (2, True): 2}, {"xy": 1, (2, 1): 2}, {(1, 2): None, (2, 1): 2},
                 list(right.items()), tuple(right.items()), list(right), (1, 2), woven(Mix.of((1,)), Mix.of((2,))),
                 {(1, 2): 1, (2, 1): LONGER}, {(1, 2): 10 ** 4000, (2, 1): 2}, {(1, 2): (10 ** 99, 1), (2, 1): 2},
                 {(1, 2): 1, (2, 1): Mix.of((1,))}, {(1, 2): 1.0, (2, 1): 2}, {(1, 2): (1, 1, 1), (2, 1): 2}]
        self.each(lambda value: is_product((1,), (2,), value, way="woven"), wrong + list(STRANGE), False)
        for way in WAYS:
            self.assertIs(is_product((), (), {(): 1}, way=way), True)
            self.assertIs(is_product((), (), {(): True}, way=way), False)
            self.assertIs(is_product((), (), {}, way=way), False)

    def test_the_ways_differ(self):
        for way in WAYS:
            for other in WAYS:
                value = counts((2, 1), (1,), other)
                self.assertIs(is_product((2, 1), (1,), value, way=way), way == other)

    def test_weights_to_twelve_and_thirteen(self):
        for way in WAYS:
            self.assertIs(is_product((6, 1), (2, 3), counts((6, 1), (2, 3), way), way=way), True)
            self.assertIs(is_product((12,), (), {(12,): 1}, way=way), True)
            self.fails(TooMany(12), is_product, (6, 1), (2, 4), {}, way=way)
            self.fails(TooMany(12), is_product, (), (13,), None, way=way)

    def test_wrong_arguments(self):
        for value in NO_ROWS:
            self.fails(InvalidRow, is_product, value, (40,), {})
            self.fails(InvalidRow, is_product, (40,), value, {})
            self.fails(InvalidRow, is_product, value, (2,), {}, way="mixed")
            self.fails(InvalidRow, is_product, (2,), value, {}, way="mixed")
        for way in NO_WAYS:
            self.fails(UnknownName(way), is_product, (40,), (40,), {}, way=way)

    def test_the_functions_stand_in_the_module_itself(self):
        for name in ("laid", "joined", "woven", "product", "power", "lay_count", "is_product"):
            self.assertEqual(getattr(products, name).__module__, "risewords.weave.products")
