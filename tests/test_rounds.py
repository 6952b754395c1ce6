"""[0.17], [16.1] to [16.7] and the functions of risewords.pair.rounds."""

import random
from fractions import Fraction
from math import comb, gcd, lcm
from time import perf_counter

from oracles import cleared, pair, rank_of, solved
from risewords.errors import InvalidNumber, InvalidOperation, InvalidTable
from risewords.pair import rounds
from risewords.pair.pairs import odd_relations, pair_relations
from risewords.pair.rounds import cusp_count, is_round, round_numbers, round_relation, round_rows
from support import LONG, LONGER, LONGEST, NO_INTEGERS, STRANGE, Case
from test_pairs import EVEN, is_odd_relation, letters, odd_places

NO_EVENS = NO_INTEGERS + (2, 3, 5, 39, 41, 42, 0, -4, LONG, LONGER, LONGEST)
ROUND = (0, 0, 1, 0, -3, 0, 3, 0, -1, 0, 0)


def times(one, other):
    """The product of two polynomials in X and Y, dicts from exponents."""
    found = {}
    for (left, right), number in one.items():
        for (more, rest), factor in other.items():
            place = (left + more, right + rest)
            found[place] = found.get(place, 0) + number * factor
    return found


def put_in(row, first, second):
    """The polynomial of a row with two other polynomials in the places of X and Y."""
    degree, total = len(row) - 1, {}
    for power, number in enumerate(row):
        if number:
            made = {(0, 0): Fraction(number)}
            for factor in [first] * power + [second] * (degree - power):
                made = times(made, factor)
            for place, share in made.items():
                total[place] = total.get(place, 0) + share
    return total


X, Y, BOTH = {(1, 0): 1}, {(0, 1): 1}, {(1, 0): 1, (0, 1): 1}


def goes_round(row):
    """[16.1] of a list of fractions, with the polynomials themselves."""
    total = put_in(row, X, Y)
    for place, number in list(put_in(row, BOTH, Y).items()) + list(put_in(row, X, BOTH).items()):
        total[place] = total.get(place, 0) - number
    return not any(total.values()) and not any(row[1::2])


def as_ratios(row):
    return tuple(pair(entry) for entry in row)


def ends(weight):
    """The row of X ** (k - 2) - Y ** (k - 2)."""
    return (-1,) + (0,) * (weight - 3) + (1,)


def drawn_round(chance, weight, closed=False):
    """A sum of multiples of round rows, with fractions."""
    rows = list(round_rows(weight)) + ([] if closed else [ends(weight)])
    factors = [Fraction(chance.randint(-4, 4), chance.randint(1, 3)) for _ in rows]
    return [sum(factor * row[place] for factor, row in zip(factors, rows)) for place in range(weight - 1)]


def numbers_by_rule(weight, row):
    shifted = put_in(row, BOTH, Y)
    return tuple(pair(Fraction(shifted.get((one - 1, weight - one - 1), 0)) / comb(weight - 2, one - 1))
                 for one in range(1, weight))


class Judged(Case):
    def test_round_rows_and_others(self):
        chance = random.Random(101)
        for weight in (4, 6, 8, 12, 14, 16, 18, 24):
            row = drawn_round(chance, weight)
            self.assertTrue(goes_round(row))
            self.assertIs(is_round(weight, as_ratios(row)), True)
            self.assertIs(is_round(weight, as_ratios(ends(weight))), True)
            self.assertIs(is_round(weight, ((0, 1),) * (weight - 1)), True)
            for place in range(weight - 1):
                near = list(row)
                near[place] += Fraction(1, 3)
                self.assertIs(is_round(weight, as_ratios(near)), goes_round(near))

    def test_all_small_rows(self):
        for weight in (4, 6):
            size = weight - 1
            for code in range(3 ** size):
                row = [code // 3 ** place % 3 - 1 for place in range(size)]
                self.assertIs(is_round(weight, as_ratios(row)), goes_round(row))

    def test_odd_polynomials_that_go_round(self):
        # 4 X ** 9 Y - 25 X ** 7 Y ** 3 + 42 X ** 5 Y ** 5 - 25 X ** 3 Y ** 7 + 4 X Y ** 9
        odd = [0, 4, 0, -25, 0, 42, 0, -25, 0, 4, 0]
        total = put_in(odd, X, Y)
        for place, number in list(put_in(odd, BOTH, Y).items()) + list(put_in(odd, X, BOTH).items()):
            total[place] = total.get(place, 0) - number
        self.assertFalse(any(total.values()))
        self.assertEqual(odd, odd[::-1])
        self.assertIs(is_round(12, as_ratios(odd)), False)
        self.fails(InvalidTable, round_numbers, 12, tuple(odd))

    def test_long_integers(self):
        for number in (LONGEST ** 20, Fraction(LONGER, LONGEST + 1)):
            self.assertIs(is_round(12, as_ratios(number * entry for entry in ROUND)), True)
            self.assertIs(is_round(12, as_ratios([number * entry for entry in ROUND[:-1]] + [1])), False)

    def test_other_values(self):
        right = as_ratios(ROUND)
        self.assertIs(is_round(12, right), True)
        wrong = [ROUND, list(right), right[:-1], right + ((0, 1),), right[1:], tuple(list(each) for each in right),
                 right[:2] + (1,) + right[3:], right[:2] + ((True, 1),) + right[3:], right[:2] + ((1, True),) + right[3:],
                 right[:2] + ((2, 2),) + right[3:], right[:1] + ((0, 2),) + right[2:], right[:1] + (None,) + right[2:],
                 right[:2] + ((-1, -1),) + right[3:], (), 12, "round", {place: each for place, each in enumerate(right)}]
        self.each(lambda value: is_round(12, value), wrong + list(STRANGE), False)
        for value in NO_EVENS:
            self.fails(InvalidNumber(value), is_round, value, right)
            self.fails(InvalidNumber(value), is_round, value, None)


class Rows(Case):
    def test_counts(self):
        self.same([cusp_count(weight) for weight in EVEN], [0, 0, 0, 0, 1, 0, 1, 1, 1, 1, 2, 1, 2, 2, 2, 2, 3, 2, 3])
        for weight in EVEN:
            self.same(cusp_count(weight), weight // 12 - (weight % 12 == 2))
            self.same(len(round_rows(weight)), cusp_count(weight))

    def test_they_are_closed_and_an_echelon(self):
        for weight in EVEN:
            found = round_rows(weight)
            self.assertIs(type(found), tuple)
            leads = [[place for place, entry in enumerate(row) if entry][0] for row in found]
            self.assertEqual(leads, sorted(set(leads)))
            for lead, row in zip(leads, found):
                self.assertTrue(type(row) is tuple and len(row) == weight - 1 and all(type(entry) is int for entry in row))
                self.assertEqual([row[0], row[-1]], [0, 0])
                self.assertTrue(row[lead] > 0 and gcd(*row) == 1)
                self.assertEqual([other[lead] for other in found if other is not row], [0] * (len(found) - 1))
                self.assertIs(is_round(weight, as_ratios(row)), True)
                self.assertEqual(row[::-1], tuple(-entry for entry in row))
                if weight < 30:
                    self.assertTrue(goes_round(row))

    def test_there_are_no_others(self):
        for weight in (4, 6, 8, 10, 12, 14, 16, 20, 24):
            size = weight - 1
            columns = []
            for place in range(0, size, 2):
                row = [int(place == at) for at in range(size)]
                left = put_in(row, X, Y)
                for each, number in list(put_in(row, BOTH, Y).items()) + list(put_in(row, X, BOTH).items()):
                    left[each] = left.get(each, 0) - number
                columns.append([left.get((at, size - 1 - at), 0) for at in range(size)])
            self.same(len(columns) - rank_of(columns), cusp_count(weight) + 1)

    def test_each_round_row_is_closed_but_for_the_ends(self):
        chance = random.Random(102)
        for weight in (12, 16, 24):
            row = drawn_round(chance, weight)
            rest = [entry - row[-1] * more for entry, more in zip(row, ends(weight))]
            self.assertEqual([rest[0], rest[-1]], [0, 0])
            self.assertFalse(any(cleared(rest, solved(round_rows(weight)))))

    def test_wrong_weights(self):
        for value in NO_EVENS:
            for call in (cusp_count, round_rows):
                self.fails(InvalidNumber(value), call, value)
            self.fails(InvalidNumber(value), round_numbers, value, None)
            self.fails(InvalidNumber(value), round_relation, value, None)
        self.same([round_rows(4), round_rows(6), round_rows(14)], [(), (), ()])


class Numbers(Case):
    def test_numbers_by_their_rule(self):
        chance = random.Random(103)
        for weight in (4, 6, 8, 12, 16, 18, 24):
            for row in [drawn_round(chance, weight), ends(weight), (0,) * (weight - 1)]:
                self.same(round_numbers(weight, as_ratios(row)), numbers_by_rule(weight, row))
        for weight in (12, 16, 24, 26):
            for row in round_rows(weight):
                self.same(round_numbers(weight, row), numbers_by_rule(weight, row))
                self.same(round_numbers(weight, as_ratios(row)), round_numbers(weight, row))

    def test_numbers_of_closed_rows(self):
        for weight in EVEN:
            for row in round_rows(weight):
                found = round_numbers(weight, row)
                self.same([found[0], found[-1]], [(0, 1), (0, 1)])
                self.same(found[1::2], found[1::2][::-1])

    def test_long_integers(self):
        row = tuple((LONGER - 1) // 3 * entry for entry in ROUND)
        self.same(round_numbers(12, row), numbers_by_rule(12, row))
        self.assertEqual(len(round_relation(12, row)), 12)
        for factor in (LONGER, Fraction(1, LONGER)):
            for call in (round_numbers, round_relation):
                self.fails(InvalidTable, call, 12, as_ratios(factor * entry for entry in ROUND))
        self.fails(InvalidTable, round_numbers, 12, tuple(LONGER * entry for entry in ROUND))

    def test_wrong_rows(self):
        right = as_ratios(ROUND)
        wrong = [list(ROUND), list(right), ROUND[1:], ROUND + (0,), ROUND[:2] + ((1, 1),) + ROUND[3:], right[:2] + (1,) + right[3:],
                 ROUND[:1] + (False,) + ROUND[2:], right[:1] + ((0, 2),) + right[2:], ROUND[:4] + (-2,) + ROUND[5:], (), None,
                 (True,) * 11, ("0",) * 11, ROUND[:3] + (1,) + ROUND[4:], right[:2] + ((1, True),) + right[3:], 12, "x" * 11,
                 tuple(list(each) for each in right)]
        for value in wrong + list(STRANGE):
            self.fails(InvalidTable, round_numbers, 12, value)
            self.fails(InvalidTable, round_relation, 12, value)


class Relations(Case):
    def right(self, weight, row, found):
        """[16.5] of a closed row."""
        numbers = numbers_by_rule(weight, row)
        self.assertEqual(len(found), weight)
        for place, entries in enumerate(letters(weight)[:-1]):
            factor = -3 if place in odd_places(weight) else int(entries[0] % 2 == 0)
            self.same(found[place], pair(factor * Fraction(*numbers[place])))
        self.same(found[-1], pair(Fraction(*found[-1])))
        self.assertFalse(any(cleared([Fraction(*ratio) for ratio in found], solved(pair_relations(weight)))))

    def test_relations_follow(self):
        chance = random.Random(104)
        for weight in (12, 16, 18, 20, 22, 24, 26):
            for row in list(round_rows(weight)) + [drawn_round(chance, weight, closed=True)]:
                self.right(weight, row, round_relation(weight, as_ratios(row)))
        for row in round_rows(24):
            self.same(round_relation(24, row), round_relation(24, as_ratios(row)))
        for weight in (4, 14):
            self.same(round_relation(weight, (0,) * (weight - 1)), ((0, 1),) * weight)

    def test_there_is_one_ratio_of_the_last_letter(self):
        for weight in (12, 16, 24):
            alone = [0] * (weight - 1) + [1]
            self.assertTrue(any(cleared(alone, solved(pair_relations(weight)))))

    def test_all_odd_relations_come_so(self):
        for weight in EVEN:
            rows = []
            for row in round_rows(weight):
                numbers = [Fraction(*ratio) for place, ratio in enumerate(round_numbers(weight, row)) if place in odd_places(weight)]
                bottom = lcm(*[number.denominator for number in numbers])
                rows.append([int(number * bottom) for number in numbers])
                if weight < 25:
                    self.assertTrue(is_odd_relation(weight, rows[-1]))
            self.same(rank_of(rows), len(rows))
            self.same(rank_of(rows + list(odd_relations(weight))), len(rows))

    def test_rows_that_are_not_closed(self):
        for weight in (4, 6, 12, 40):
            self.fails(InvalidOperation, round_relation, weight, ends(weight))
            self.fails(InvalidOperation, round_relation, weight, as_ratios(ends(weight)))
        self.fails(InvalidOperation, round_relation, 12, tuple(one + other for one, other in zip(ROUND, ends(12))))

    def test_what_is_not_true(self):
        self.same([len(round_rows(12)), len(round_rows(14))], [1, 0])
        square = times(put_in(ends(4), X, Y), put_in(ends(4), X, Y))
        self.assertFalse(goes_round([square.get((at, 4 - at), 0) for at in range(5)]))
        self.assertNotEqual(round_relation(12, ROUND)[-1], (0, 1))


class Whole(Case):
    def test_little_time(self):
        row, start = round_rows(24)[1], perf_counter()
        for _ in range(5):
            round_rows(26)
            round_relation(24, row)
        round_rows(40)
        round_rows(40)
        self.assertLess(perf_counter() - start, 1)

    def test_the_functions_stand_in_the_module_itself(self):
        for name in ("is_round", "cusp_count", "round_rows", "round_numbers", "round_relation"):
            self.assertEqual(getattr(rounds, name).__module__, "risewords.pair.rounds")
