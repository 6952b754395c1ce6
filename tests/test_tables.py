"""[1.2] to [1.5] and the functions of risewords.base.tables."""

import random
from fractions import Fraction
from itertools import product
from math import gcd

from risewords.base import tables
from risewords.base.elimination import echelon
from risewords.base.tables import is_span_paper, is_table, kernel, rank, span_paper
from risewords.errors import InvalidOperation, InvalidTable
from support import LONG, LONGER, LONGEST, STRANGE, Case

SOME = ((1, 2, 3), (4, 5, 6), (7, 8, 9))
TABLES = [((0,),), ((5,),), ((0, 0),), ((0,), (0,)), ((0, 0, 0), (0, 0, 0)), ((1, 0), (0, 1)), SOME, ((2, 4, 0),),
          ((0, 0, 3), (0, 0, 5)), ((0, 2), (0, 3), (4, 0)), ((1,), (2,), (-3,)), ((6, 10, 15),), ((1, 2), (2, 4)),
          ((0, 0, 1, 2), (0, 0, 2, 4), (3, 0, 0, 1)), ((-2, -4, 1), (1, 2, 0)), ((LONGER - 1, 1 - LONGER), (LONG, 7))]
NO_TABLES = STRANGE + (
    1, (), ((),), ((), ()), [[1]], ([1],), [(1,)], ((1,), [1]), ((1, 2), (1,)), ((1,), (1, 2)), ((1,), ()), ((), (1,)),
    ((True,),), ((1, False),), ((1, "2"),), (("1",),), ((None,),), (((1,),),), ((1,),) * 41, ((1,) * 41,), ((1, 2), 3),
    ((1, 2), None), ((LONGER,),), ((1, -LONGER),), ((LONGEST,),), {(1,): 1}, "12", 10 ** 99)


def draw(chance, rows, columns, size=3):
    return tuple(tuple(chance.randint(-size, size) for _ in range(columns)) for _ in range(rows))


def many_tables():
    chance = random.Random(5)
    drawn = [draw(chance, chance.randint(1, 6), chance.randint(1, 6), chance.choice((1, 2, 9))) for _ in range(150)]
    return TABLES + drawn


def dot(one, other):
    return sum(left * right for left, right in zip(one, other))


def solved(rows):
    """The leads and the rows, with 1 at each lead, by fractions."""
    left = [[Fraction(entry) for entry in row] for row in rows]
    done, leads = 0, []
    for column in range(len(left[0])):
        at = next((at for at in range(done, len(left)) if left[at][column]), None)
        if at is not None:
            left[done], left[at] = left[at], left[done]
            left[done] = [entry / left[done][column] for entry in left[done]]
            for index in range(len(left)):
                if index != done:
                    first = left[index][column]
                    left[index] = [entry - first * taken for entry, taken in zip(left[index], left[done])]
            leads.append(column)
            done += 1
    return leads, left[:done]


def scaled(row):
    """Multiplied to integers without a common divisor, the first one other than 0 above 0."""
    bottom = 1
    for entry in row:
        bottom = bottom * entry.denominator // gcd(bottom, entry.denominator)
    tops = [int(entry * bottom) for entry in row]
    return tuple(top // gcd(*tops) for top in tops)


class Judging(Case):
    def test_constant(self):
        self.same(tables.MAX_SIDE, 40)

    def test_tables(self):
        self.each(is_table, many_tables() + [((0,) * 40,) * 40, ((1,),) * 40, ((1,) * 40,), ((1 - LONGER,),)], True)

    def test_no_tables(self):
        self.each(is_table, NO_TABLES + (((10 ** 4000,),),), False)

    def test_what_is_no_table_is_refused(self):
        for value in NO_TABLES:
            self.fails(InvalidTable, rank, value)
            self.fails(InvalidTable, kernel, value)
            self.fails(InvalidTable, span_paper, value, (1,))
            self.fails(InvalidTable, is_span_paper, value, (1,), ("test", (1,)))
            self.fails(InvalidTable, span_paper, value, None)
            self.fails(InvalidTable, is_span_paper, value, None, None)


class Kernels(Case):
    def test_rank(self):
        for table in many_tables():
            self.same(rank(table), len(solved(table)[0]))

    def test_kernel_is_an_echelon_of_what_is_orthogonal(self):
        for table in many_tables():
            found = kernel(table)
            self.assertIs(type(found), tuple)
            self.same(rank(table) + len(found), len(table[0]))
            leads = []
            for row in found:
                self.assertTrue(type(row) is tuple and all(dot(row, other) == 0 for other in table))
                lead = next(at for at, entry in enumerate(row) if entry)
                self.assertTrue(row[lead] > 0 and gcd(*row) == 1)
                self.assertTrue(all(other is row or other[lead] == 0 for other in found))
                leads.append(lead)
            self.assertEqual(leads, sorted(set(leads)))

    def test_echelon(self):
        for table in many_tables():
            self.same(echelon(table), tuple(scaled(row) for row in solved(table)[1]))

    def test_zeros_and_all(self):
        self.same([rank(((0, 0),)), kernel(((0, 0),)), kernel(((0,),)), kernel(((7,),))], [0, ((1, 0), (0, 1)), ((1,),), ()])
        self.same([rank(((0,),)), rank(((3,), (4,))), echelon(((0, 0), (0, 0)))], [0, 1, ()])

    def test_rows_of_a_kernel_need_not_be_orthogonal(self):
        one, other = kernel(((1, 1, 1),))
        self.assertNotEqual(dot(one, other), 0)

    def test_the_greatest_sides(self):
        chance = random.Random(7)
        wide, high = draw(chance, 1, 40, 9), draw(chance, 40, 1, 9)
        self.same([rank(wide), len(kernel(wide)), rank(high), kernel(high)], [1, 39, 1, ()])
        square = draw(chance, 40, 40, 9)
        self.same([rank(square), rank(square[:39] + (square[0],)), len(kernel(square[:30]))], [40, 39, 10])

    def test_long_integers(self):
        chance = random.Random(8)
        table = draw(chance, 5, 7, LONGER - 1)
        self.same(rank(table), 5)
        for row in kernel(table):
            self.assertEqual([dot(row, other) for other in table], [0] * 5)


class Papers(Case):
    def check(self, table, numbers):
        """One of both kinds is told, and it is right by its definition."""
        paper = span_paper(table, numbers)
        self.assertTrue(type(paper) is tuple and len(paper) == 2 and type(paper[1]) is tuple)
        kind, told = paper
        if kind == "numbers":
            self.assertEqual(len(told), len(table))
            for top, bottom in told:
                self.assertTrue(bottom > 0 and gcd(top, bottom) == 1)
            for at, number in enumerate(numbers):
                self.assertEqual(sum(Fraction(*ratio) * row[at] for ratio, row in zip(told, table)), number)
        else:
            self.assertEqual([kind, len(told)], ["test", len(numbers)])
            self.assertEqual([dot(row, told) for row in table], [0] * len(table))
            self.assertNotEqual(dot(numbers, told), 0)
        self.assertIs(is_span_paper(table, numbers, paper), True)
        return kind

    def test_told_papers(self):
        chance = random.Random(9)
        for table in many_tables():
            factors = [chance.randint(-4, 4) for _ in table]
            inside = tuple(dot(factors, column) for column in zip(*table))
            self.same(self.check(table, inside) if max(map(abs, inside)) < LONGER else "numbers", "numbers")
            self.check(table, draw(chance, 1, len(table[0]))[0])
            self.check(table, tuple(0 for _ in inside))
        self.same(self.check(((0, 0),), (0, 0)), "numbers")
        self.same(self.check(((0, 0),), (0, 1)), "test")

    def test_just_one_kind_is_right(self):
        for table in ((1, 0), (0, 0)), ((1, 2), (2, 4)), ((1, 2), (3, 4)), ((0, 0),), ((2, 3),):
            for numbers in product(range(-1, 3), repeat=2):
                inside = len(solved(table)[0]) == len(solved(table + (numbers,))[0])
                self.same(self.check(table, numbers), "numbers" if inside else "test")
                small = [Fraction(top, bottom) for top in range(-4, 5) for bottom in (1, 2, 3)]
                ratios = {(number.numerator, number.denominator) for number in small}
                for told in product(sorted(ratios), repeat=len(table)):
                    right = all(sum(Fraction(*ratio) * row[at] for ratio, row in zip(told, table)) == numbers[at]
                                for at in range(2))
                    self.assertIs(is_span_paper(table, numbers, ("numbers", told)), right)
                for told in product(range(-4, 5), repeat=2):
                    right = all(dot(row, told) == 0 for row in table) and dot(numbers, told) != 0
                    self.assertIs(is_span_paper(table, numbers, ("test", told)), right)

    def test_papers_that_others_make(self):
        self.same(is_span_paper(SOME, (3, 3, 3), ("numbers", ((0, 1), (-1, 1), (1, 1)))), True)
        self.same(is_span_paper(SOME, (3, 3, 3), ("numbers", ((-1, 2), (0, 1), (1, 2)))), True)
        for factor in (1, -1, 5, 10 ** 70, -10 ** 500):
            test = (factor, -2 * factor, factor)
            self.same(is_span_paper(SOME, (1, 0, 0), ("test", test)), True)
            top, bottom = factor, 3 * 10 ** 80 + 1
            told = (Fraction(top, bottom) - 1, 1 - 2 * Fraction(top, bottom), Fraction(top, bottom))
            told = tuple((number.numerator, number.denominator) for number in told)
            self.same(is_span_paper(SOME, (3, 3, 3), ("numbers", told)), True)

    def test_values_near_right_papers(self):
        numbers, test = ((-1, 1), (1, 1), (0, 1)), (1, -2, 1)
        self.same(is_span_paper(SOME, (3, 3, 3), ("numbers", numbers)), True)
        wrong = [("numbers", list(numbers)), ["numbers", numbers], ("test", numbers), ("numbers", numbers, 1),
                 ("numbers",), ("numbers", numbers + ((0, 1),)), ("numbers", numbers[:2]), ("number", numbers),
                 ("numbers", ((-1, 1), (1, 1), 0)), ("numbers", ((-1, 1), (1, True), (0, 1))), (numbers, "numbers"),
                 ("numbers", ((-1, 1), (2, 2), (0, 1))), ("numbers", ((1, -1), (1, 1), (0, 1))), "numbers", numbers,
                 ("numbers", ((-1, 1), (1, 1), (0, 2))), ("numbers", ((-1, 1), (1, 1), (False, 1))), {"numbers": numbers},
                 ("numbers", ((-1, 1), [1, 1], (0, 1))), ("numbers", (-1, 1, 0)), ("numbers", ((-1, 1), (1, 1), (1, 9)))]
        self.each(lambda value: is_span_paper(SOME, (3, 3, 3), value), wrong + list(STRANGE), False)
        self.same(is_span_paper(SOME, (1, 0, 0), ("test", test)), True)
        wrong = [("test", list(test)), ["test", test], ("numbers", test), ("test", test, 1), ("test",), ("test", test[:2]),
                 ("test", test + (0,)), ("test", (True, -2, 1)), ("test", (1, -2, True)), ("test", ((1, 1), -2, 1)),
                 ("test", ((1, 1), (-2, 1), (1, 1))), ("test", (0, 0, 0)), ("test", (1, -2, 2)), (None, test), (0, test),
                 ("test", (1, -2, "1")), ("Test", test), {"test": test}, ("test", {0: 1, 1: -2, 2: 1})]
        self.each(lambda value: is_span_paper(SOME, (1, 0, 0), value), wrong + list(STRANGE), False)
        self.same(is_span_paper(((0,),), (True + 1,), ("test", (True,))), False)

    def test_long_integers(self):
        chance = random.Random(10)
        for rows, columns in ((3, 3), (4, 3), (3, 5), (1, 1), (1, 3), (3, 1)):
            table = draw(chance, rows, columns, LONGER - 1)
            self.check(table, draw(chance, 1, columns, LONGER - 1)[0])
            self.check(table, (0,) * columns)

    def test_the_greatest_sides(self):
        chance = random.Random(11)
        table = draw(chance, 40, 40, 4)
        self.same(self.check(table, draw(chance, 1, 40)[0]), "numbers")
        self.same(self.check(table[:39], draw(chance, 1, 40)[0]), "test")
        self.same(self.check(((1,),) * 40, (7,)), "numbers")
        self.same(self.check(((1,) * 40,), (7,) * 39 + (8,)), "test")

    def test_wrong_numbers(self):
        wrong = STRANGE + (1, (), (1, 2), (1, 2, 3, 4), [1, 2, 3], (1, 2, True), (1, 2, None), (1, 2, "3"), (1, 2, (3, 1)),
                           (1, 2, LONGER), (1, -LONGER, 3), (LONGEST, 2, 3), ((1, 2, 3),), {0: 1, 1: 2, 2: 3}, "123")
        for value in wrong:
            self.fails(InvalidOperation, span_paper, SOME, value)
            self.fails(InvalidOperation, is_span_paper, SOME, value, ("test", (1, -2, 1)))
            self.fails(InvalidOperation, is_span_paper, SOME, value, None)

    def test_longest_numbers(self):
        self.same(span_paper(((1,),), (LONGER - 1,)), ("numbers", ((LONGER - 1, 1),)))


class Module(Case):
    def test_the_functions_stand_in_the_module_itself(self):
        for name in ("is_table", "rank", "kernel", "span_paper", "is_span_paper"):
            self.assertEqual(getattr(tables, name).__module__, "risewords.base.tables")
