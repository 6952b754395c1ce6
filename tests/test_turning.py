"""[9.1] to [9.6] and the functions of risewords.cut.turning."""

import random
from fractions import Fraction
from math import comb

from oracles import chain_sum, listed, pair, share
from risewords.cut import turning
from risewords.cut.sums import slack_sum
from risewords.cut.turning import (difference_table, is_turned, sum_by_tops, top_list, top_sum, turned_list,
                                   turned_value)
from risewords.errors import InvalidNumber, InvalidOperation, InvalidRow
from risewords.word.mixes import Mix
from risewords.word.rows import dual_row, rows_of, turned_row
from support import LONG, LONGER, LONGEST, NO_INTEGERS, NO_ROWS, STRANGE, Case

SMALL = [row for weight in range(1, 6) for row in rows_of(weight)]
HEAVY = [(40,), (1,) * 40, (2,) * 20, (1, 39), (39, 1), (5, 1, 3, 1, 2)]
PRIMES = (2, 3, 5, 7, 11, 13, 17, 19, 23, 29, 31, 37, 41, 43, 47, 53, 59, 61)
NO_LISTS = STRANGE + ((), 1, [(1, 1)], (1, 2), ((1, 1), (2, 2)), ((1, 1), (0, 2)), ((1, 1), (1, -1)), ((1, 1), (1, 0)),
                      ((1, 1), (1, True)), ((True, 1),), ((1, 1), 1), ((1, 1), [1, 1]), ((1, 1), (1, 1, 1)),
                      ((1, 1),) * 62, (("1", 1),), ((1, 1), None), Mix.of((2,)), {(1, 1): 1}, (Mix.of((2,)),))


def top_by_rule(place, row):
    """The sum over all chains that begin with the place and 1."""
    return sum((share(row, (place + 1, *rest)) for rest in listed(place + 2, len(row) - 1, slack=True)), Fraction(0))


def turned_by_rule(numbers):
    return [sum((-1) ** low * comb(index, low) * numbers[low] for low in range(index + 1))
            for index in range(len(numbers))]


def drawn_list(chance, size):
    return [Fraction(chance.randint(-9, 9), chance.randint(1, 9)) for _ in range(size)]


def pairs(numbers):
    return tuple(pair(number) for number in numbers)


class Tops(Case):
    def test_constants(self):
        self.same([turning.MAX_PLACE, turning.MAX_LISTED], [60, 61])

    def test_top_sums_by_their_rule(self):
        for row in SMALL:
            wanted = [top_by_rule(place, row) for place in range(7)]
            for place in range(7):
                self.same(top_sum(place, row), pair(wanted[place]))
                self.same(top_list(place + 1, row), pairs(wanted[:place + 1]))

    def test_one_entry_and_the_place_0(self):
        for place in (0, 1, 2, 59, 60):
            self.same(top_sum(place, (3,)), (1, (place + 1) ** 3))
        for row in SMALL + HEAVY:
            self.same([top_sum(0, row), top_list(1, row)], [(1, 1), ((1, 1),)])

    def test_top_sums_and_slack_sums(self):
        for row in SMALL + HEAVY:
            for place in (1, 2, 17, 60):
                if len(row) > 1:
                    wanted = Fraction(*slack_sum(place + 2, row[1:])) / (place + 1) ** row[0]
                    self.same(top_sum(place, row), pair(wanted))
            self.same(top_list(61, row)[60], top_sum(60, row))

    def test_slack_sums_by_tops(self):
        for row in SMALL + HEAVY:
            for bound in (1, 2, 3, 7, 61, 62):
                self.same(sum_by_tops(bound, row), slack_sum(bound, row))
        for row in SMALL:
            self.same(sum_by_tops(5, row), pair(chain_sum(5, row, slack=True)))

    def test_wrong_arguments(self):
        bounds = ((top_sum, -1, 61), (turned_value, -1, 61), (top_list, 0, 62), (sum_by_tops, 0, 63))
        for call, least, most in bounds:
            for value in NO_INTEGERS + (least, most, LONG, LONGER, LONGEST, -LONGER):
                self.fails(InvalidNumber(value), call, value, (2,))
                self.fails(InvalidNumber(value), call, value, None)
                self.fails(InvalidNumber(value), call, value, ())
            for number in (least + 1, most - 1):
                for value in NO_ROWS:
                    self.fails(InvalidRow, call, number, value)
                self.fails(InvalidOperation, call, number, ())
                call(number, (2,))


class Turned(Case):
    def test_the_row_turned_over(self):
        for row in SMALL + [(5, 1, 3, 1, 2), (40,), (39, 1)]:
            for place in (0, 1, 2, 5, 6, 30, 60):
                self.same(turned_value(place, row), top_sum(place, turned_row(row)))
        for row in SMALL:
            self.same(turned_list(top_list(12, row)), top_list(12, turned_row(row)))
            self.same(turned_value(4, row), pair(top_by_rule(4, turned_row(row))))

    def test_slack_sums_with_signs(self):
        for row in SMALL:
            for place in (1, 2, 3, 8):
                total = sum((-1) ** (low - 1) * comb(place, low) * Fraction(*slack_sum(low + 1, row))
                            for low in range(1, place + 1))
                self.same(pair(total), top_sum(place - 1, turned_row(row)))
            for bound in (1, 2, 5, 20):
                total = sum((-1) ** low * comb(bound - 1, low + 1) * Fraction(*top_sum(low, row))
                            for low in range(bound - 1))
                self.same(pair(total), slack_sum(bound, turned_row(row)))

    def test_sums_modulo_primes(self):
        for row in SMALL:
            for prime in PRIMES[:8]:
                total = Fraction(*slack_sum(prime, row)) + Fraction(*slack_sum(prime, turned_row(row)))
                self.assertEqual(total.numerator % prime, 0)

    def test_lists_by_their_rule(self):
        chance = random.Random(31)
        for size in (1, 2, 3, 10, 60, 61):
            numbers = drawn_list(chance, size)
            found = turned_list(pairs(numbers))
            self.same(found, pairs(turned_by_rule(numbers)))
            self.same(turned_list(found), pairs(numbers))
            self.assertIs(is_turned(pairs(numbers), found), True)
            self.assertIs(is_turned(found, pairs(numbers)), True)

    def test_sums_of_lists(self):
        chance = random.Random(32)
        one, other = drawn_list(chance, 9), drawn_list(chance, 9)
        both = [left + 3 * right for left, right in zip(one, other)]
        wanted = [Fraction(*left) + 3 * Fraction(*right)
                  for left, right in zip(turned_list(pairs(one)), turned_list(pairs(other)))]
        self.same(turned_list(pairs(both)), pairs(wanted))

    def test_integers_of_any_length(self):
        numbers = [Fraction(LONGEST ** 20 + 1, 3), Fraction(-1, LONGEST ** 9 + 7), Fraction(0), Fraction(-LONGEST)]
        self.same(turned_list(pairs(numbers)), pairs(turned_by_rule(numbers)))
        self.assertIs(is_turned(pairs(numbers), pairs(turned_by_rule(numbers))), True)
        self.same(difference_table(pairs(numbers))[1][0], pair(numbers[0] - numbers[1]))

    def test_what_is_not_turned(self):
        one = ((1, 1), (1, 2), (1, 3))
        self.assertIs(is_turned(one, one), True)
        for other in (((1, 1), (1, 2), (1, 4)), ((1, 1), (-1, 2), (1, 3)), ((0, 1),) * 3, ((1, 1), (1, 3), (1, 2))):
            self.assertIs(is_turned(one, other), False)
            self.assertIs(is_turned(other, one), False)

    def test_what_is_not_true(self):
        self.assertLess(2, sum(Fraction(*number) for number in top_list(20, (2, 1))))
        self.assertTrue(any(top < 0 for top, _ in turned_list(((1, 1), (2, 1), (3, 1)))))
        self.assertNotEqual(top_list(4, (2, 1)), top_list(4, (1, 2)))
        self.assertNotEqual(turned_list(top_list(4, (3,))), top_list(4, dual_row((3,))))


class Differences(Case):
    def test_tables_by_their_rule(self):
        chance = random.Random(33)
        for size in (1, 2, 3, 7, 61):
            numbers = drawn_list(chance, size)
            rows = [numbers]
            while len(rows[-1]) > 1:
                rows.append([one - other for one, other in zip(rows[-1], rows[-1][1:])])
            found = difference_table(pairs(numbers))
            self.same(found, tuple(pairs(row) for row in rows))
            self.same(turned_list(pairs(numbers)), tuple(row[0] for row in found))

    def test_the_table_of_the_turned_list_has_the_columns(self):
        numbers = top_list(8, (2, 1, 1))
        table = difference_table(numbers)
        columns = tuple(tuple(table[row][column] for row in range(8 - column)) for column in range(8))
        self.same(difference_table(turned_list(numbers)), columns)

    def test_wrong_lists(self):
        for value in NO_LISTS:
            self.fails(InvalidOperation, turned_list, value)
            self.fails(InvalidOperation, difference_table, value)
            self.fails(InvalidOperation, is_turned, value, ((1, 1),))
            self.fails(InvalidOperation, is_turned, ((1, 1),), value)
            self.fails(InvalidOperation, is_turned, value, value)
        self.fails(InvalidOperation, is_turned, ((1, 1),), ((1, 1), (0, 1)))
        self.fails(InvalidOperation, is_turned, ((1, 1), (0, 1)), ((1, 1),))

    def test_the_functions_stand_in_the_module_itself(self):
        for name in ("top_sum", "top_list", "turned_value", "turned_list", "difference_table", "is_turned",
                     "sum_by_tops"):
            self.assertEqual(getattr(turning, name).__module__, "risewords.cut.turning")
