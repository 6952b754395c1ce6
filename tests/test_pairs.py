"""[0.17], [15.1] to [15.6] and the functions of risewords.pair.pairs."""

import random
from fractions import Fraction
from math import comb, gcd
from time import perf_counter

from oracles import cleared, pair, rank_of, solved
from risewords.errors import InvalidNumber, InvalidOperation
from risewords.pair import pairs
from risewords.pair.pairs import (apart_numbers, is_pair_paper, odd_relations, pair_left, pair_paper, pair_relations,
                                  pair_rows)
from risewords.pair.rounds import cusp_count, round_rows
from risewords.weave.products import joined, woven
from risewords.word.mixes import Mix
from support import LONG, LONGER, LONGEST, NO_INTEGERS, STRANGE, Case

NO_WEIGHTS = NO_INTEGERS + (2, 41, 0, -1, -4, LONG, LONGER, LONGEST)
TWENTY = 10 ** 20 - 1
EVEN = tuple(range(4, 41, 2))


def letters(weight):
    """The rows of the pair letters, in their sequence."""
    return [(one, weight - one) for one in range(1, weight)] + [(weight,)]


def numbers_of(mix, weight):
    return [mix.number_at(row)[0] for row in letters(weight)]


def by_rule(weight, one):
    """A pair relation, added up letter by letter."""
    other, found = weight - one, {row: 0 for row in letters(weight)}
    for row in ((one, other), (other, one), (weight,)):
        found[row] += 1
    for first in range(1, weight):
        found[first, weight - first] -= comb(first - 1, one - 1) + comb(first - 1, other - 1)
    return tuple(found.values())


def joined_numbers(weight, one):
    found = [0] * weight
    for place in (one - 1, weight - one - 1, weight - 1):
        found[place] += 1
    return found


def products_sum(one, other):
    return sum(left * right for left, right in zip(one, other))


def odd_places(weight):
    return [place for place, row in enumerate(letters(weight)) if len(row) == 2 and row[0] % 2 and min(row) >= 3]


def is_odd_relation(weight, row):
    """Whether odd letters, so many times each, are a sum of relations, joined products of even entries and Z(k)."""
    makers = [by_rule(weight, one) for one in range(1, weight // 2 + 1)]
    makers += [joined_numbers(weight, one) for one in range(2, weight // 2 + 1, 2)] + [[0] * (weight - 1) + [1]]
    numbers = [0] * weight
    for place, number in zip(odd_places(weight), row):
        numbers[place] = number
    return not any(cleared(numbers, solved(makers)))


class Relations(Case):
    def test_constants(self):
        self.same(pairs.MAX_PAIRED, 40)

    def test_rows(self):
        for weight in range(3, 41):
            self.same(pair_rows(weight), tuple(letters(weight)))

    def test_relations_by_their_rule(self):
        for weight in range(3, 41):
            self.same(pair_relations(weight), tuple(by_rule(weight, one) for one in range(1, weight // 2 + 1)))

    def test_relations_by_products(self):
        for weight in range(3, 13):
            for one, found in enumerate(pair_relations(weight), 1):
                left, right = Mix.of((one,)), Mix.of((weight - one,))
                self.same(list(found), numbers_of(joined(left, right) - woven(left, right), weight))

    def test_no_relation_hangs_on_the_others(self):
        for weight in list(range(3, 20)) + [27, 40]:
            self.same(rank_of(pair_relations(weight)), weight // 2)
            self.same(pair_left(weight), weight - weight // 2)
        self.same([pair_left(weight) for weight in range(3, 41)], [(weight + 1) // 2 for weight in range(3, 41)])

    def test_wrong_weights(self):
        for value in NO_WEIGHTS:
            for call in (pair_rows, pair_relations, pair_left, odd_relations):
                self.fails(InvalidNumber(value), call, value)
            self.fails(InvalidNumber(value), pair_paper, value, None)
            self.fails(InvalidNumber(value), is_pair_paper, value, None, None)


class Papers(Case):
    def right(self, weight, numbers, paper):
        """Checks a told paper part by part, and that it is judged right."""
        self.assertEqual([type(paper), len(paper), type(paper[1])], [tuple, 2, tuple])
        relations = [by_rule(weight, one) for one in range(1, weight // 2 + 1)]
        if paper[0] == "numbers":
            self.assertEqual(len(paper[1]), len(relations))
            made = [sum(Fraction(*ratio) * row[place] for ratio, row in zip(paper[1], relations)) for place in range(weight)]
            self.assertEqual(made, list(numbers))
            self.assertEqual(paper[1], tuple(pair(Fraction(*ratio)) for ratio in paper[1]))
        else:
            self.assertEqual([paper[0], len(paper[1])], ["test", weight])
            self.assertTrue(all(products_sum(row, paper[1]) == 0 for row in relations))
            self.assertNotEqual(products_sum(numbers, paper[1]), 0)
        self.assertIs(is_pair_paper(weight, numbers, paper), True)

    def test_told_papers(self):
        chance = random.Random(91)
        for weight in list(range(3, 20)) + [25, 32, 39, 40]:
            relations = pair_relations(weight)
            times = [chance.randint(-3, 3) for _ in relations]
            made = tuple(products_sum(times, [row[place] for row in relations]) for place in range(weight))
            drawn = tuple(chance.randint(-9, 9) for _ in range(weight))
            alone = (0,) * (weight - 1) + (1,)
            for numbers in (made, drawn, alone, (0,) * weight):
                found = pair_paper(weight, numbers)
                self.right(weight, numbers, found)
                follows = not any(cleared(numbers, solved(relations)))
                self.same(found[0], "numbers" if follows else "test")
            self.same(pair_paper(weight, made), ("numbers", tuple((each, 1) for each in times)))

    def test_long_numbers(self):
        for weight in (3, 4, 11):
            relations = pair_relations(weight)
            scale = TWENTY // max(abs(entry) for row in relations for entry in row)
            made = tuple(scale * entry for entry in relations[-1])
            for numbers in ((TWENTY,) * weight, (-TWENTY,) + (0,) * (weight - 1), made):
                self.right(weight, numbers, pair_paper(weight, numbers))
            self.same(pair_paper(weight, made)[1][-1], (scale, 1))

    def test_papers_that_others_made(self):
        chance = random.Random(92)
        for weight in (3, 4, 7, 10):
            relations = pair_relations(weight)
            numbers = relations[0]
            ratios = ((1, 1),) + ((0, 1),) * (len(relations) - 1)
            self.assertIs(is_pair_paper(weight, numbers, ("numbers", ratios)), True)
            self.assertIs(is_pair_paper(weight, numbers, ("numbers", ratios[::-1])), len(ratios) == 1)
            self.assertIs(is_pair_paper(weight, numbers, ("numbers", ratios + ((0, 1),))), False)
            self.assertIs(is_pair_paper(weight, numbers, ("test", (0,) * weight)), False)
            barred = tuple(chance.randint(-5, 5) for _ in range(weight))
            kind, test = pair_paper(weight, barred)
            self.assertEqual(kind, "test")
            for factor in (-1, 7, LONGEST ** 5):
                self.assertIs(is_pair_paper(weight, barred, ("test", tuple(factor * entry for entry in test))), True)
            near = (test[0], test[1] + 1) + test[2:]
            zero = all(products_sum(row, near) == 0 for row in relations) and products_sum(near, barred) != 0
            self.assertIs(is_pair_paper(weight, barred, ("test", near)), zero)
            self.assertIs(is_pair_paper(weight, numbers, ("test", test)), False)

    def test_just_one_kind_is_right(self):
        chance = random.Random(93)
        for weight in (5, 8):
            relations = pair_relations(weight)
            for _ in range(20):
                numbers = tuple(chance.randint(-2, 2) for _ in range(weight))
                shares = pair_paper(weight, numbers)
                other = "test" if shares[0] == "numbers" else "numbers"
                self.assertIs(is_pair_paper(weight, numbers, (other, shares[1])), False)
                if other == "numbers":
                    for _ in range(5):
                        ratios = tuple((chance.randint(-2, 2), 1) for _ in relations)
                        self.assertIs(is_pair_paper(weight, numbers, (other, ratios)), False)

    def test_values_near_right_papers(self):
        right = ("numbers", ((2, 1), (-2, 1)))
        numbers = (0, -2, 6, 0)
        self.assertIs(is_pair_paper(4, numbers, right), True)
        wrong = [list(right), ("numbers", list(right[1])), ("numbers", ((2, 1), [-2, 1])), ("numbers", (2, -2)),
                 ("numbers", ((4, 2), (-2, 1))), ("numbers", ((2, True), (-2, 1))), ("numbers", ((2, 1),)), ("numbers",),
                 ("numbers", ((2, 1), (-2, 1)), 1), ("test", right[1]), ("Numbers", right[1]), right[1], (right,), None,
                 ("numbers", ((-2, -1), (-2, 1))), ("numbers", {}), {"numbers": right[1]}, ("numbers", ((2, 1), None))]
        self.each(lambda value: is_pair_paper(4, numbers, value), wrong + list(STRANGE), False)
        barred, test = (1, 0, 0), (1, 0, 0)
        self.assertIs(is_pair_paper(3, barred, ("test", test)), True)
        wrong = [("test", [1, 0, 0]), ("test", (True, 0, 0)), ("test", (1, 0)), ("test", (1, 0, 0, 0)), ("test", (0, 1, 1)),
                 ("test", (0, 0, 0)), ("test", (1, 0, 1)), ("numbers", test), ("test", ((1, 1), (0, 1), (0, 1))), ("test",)]
        self.each(lambda value: is_pair_paper(3, barred, value), wrong + list(STRANGE), False)

    def test_wrong_numbers(self):
        for numbers in STRANGE + ((), (1, 2), (1, 2, 3, 4), [1, 2, 3], (1, 2, True), (False, 0, 0), (1, 2, "3"), (1, 2, None),
                                  (1, 2, (3, 1)), ((1, 1), (2, 1), (3, 1)), (1, 2, TWENTY + 1), (-TWENTY - 1, 0, 0), (LONGEST, 1, 1)):
            self.fails(InvalidOperation, pair_paper, 3, numbers)
            self.fails(InvalidOperation, is_pair_paper, 3, numbers, ("test", (1, 0, 0)))


class Odd(Case):
    def test_they_are_odd_relations(self):
        for weight in EVEN:
            found = odd_relations(weight)
            self.same(len(found), cusp_count(weight))
            if weight <= 26:
                self.assertTrue(all(is_odd_relation(weight, row) for row in found))
            self.assertTrue(all(len(row) == len(odd_places(weight)) for row in found))

    def test_there_are_no_others(self):
        for weight in (12, 16, 18, 24):
            makers = [by_rule(weight, one) for one in range(1, weight // 2 + 1)]
            makers += [joined_numbers(weight, one) for one in range(2, weight // 2 + 1, 2)] + [[0] * (weight - 1) + [1]]
            odd = odd_places(weight)
            alone = [[int(place == other) for other in range(weight)] for place in odd]
            # What both span together is less than both by as much as they share.
            shared = rank_of(makers) + len(odd) - rank_of(makers + alone)
            self.same(len(odd_relations(weight)), shared)

    def test_they_are_an_echelon(self):
        for weight in EVEN:
            found = odd_relations(weight)
            self.assertIs(type(found), tuple)
            leads = [[place for place, entry in enumerate(row) if entry][0] for row in found]
            self.assertEqual(leads, sorted(set(leads)))
            for lead, row in zip(leads, found):
                self.assertTrue(type(row) is tuple and all(type(entry) is int for entry in row))
                self.assertTrue(row[lead] > 0 and gcd(*row) == 1)
                self.assertEqual([other[lead] for other in found if other is not row], [0] * (len(found) - 1))

    def test_odd_letters_do_not_hang_on_one_another(self):
        for weight in (8, 12, 16, 22):
            rows = [[int(place == other) for other in range(weight)] for place in odd_places(weight) + [weight - 1]]
            relations = list(pair_relations(weight))
            self.same(rank_of(relations + rows), len(relations) + len(rows))

    def test_what_is_not_true(self):
        makers = [joined_numbers(8, one) for one in range(1, 5)] + [[0] * 7 + [1]]
        self.assertLess(rank_of([*pair_relations(8), *makers]), 8)
        self.same([len(odd_relations(weight)) for weight in (12, 14, 16)], [1, 0, 1])
        self.assertTrue(any(entry < 0 for row in odd_relations(24) for entry in row))

    def test_wrong_weights(self):
        for weight in list(range(3, 40, 2)) + [41, 42]:
            self.fails(InvalidNumber(weight), odd_relations, weight)
        self.same([odd_relations(4), odd_relations(6), len(odd_relations(40)), len(round_rows(40))], [(), (), 3, 3])


class Apart(Case):
    def test_odd_weights_come_apart(self):
        chance = random.Random(94)
        for weight in range(3, 40, 2):
            half = (weight - 1) // 2
            relations = solved([by_rule(weight, one) for one in range(1, half + 1)])
            makers = [joined_numbers(weight, one) for one in range(1, half + 1)] + [[0] * (weight - 1) + [1]]
            for one in range(1, weight) if weight < 24 else chance.sample(range(1, weight), 3) + [1, weight - 1]:
                found = apart_numbers(one, weight - one)
                self.assertEqual(len(found), half + 1)
                numbers = [-sum(Fraction(*ratio) * row[place] for ratio, row in zip(found, makers)) for place in range(weight)]
                numbers[one - 1] += 1
                self.assertFalse(any(cleared(numbers, relations)), (one, weight - one))
                self.same(found, tuple(pair(Fraction(*ratio)) for ratio in found))
                self.same(found[0], (1, 1) if one == 1 else (0, 1))

    def test_there_is_just_one_way(self):
        for weight in (3, 5, 9, 15, 21):
            half = (weight - 1) // 2
            makers = [by_rule(weight, one) for one in range(1, half + 1)]
            makers += [joined_numbers(weight, one) for one in range(1, half + 1)] + [[0] * (weight - 1) + [1]]
            self.same(rank_of(makers), weight)

    def test_some_are_no_integers(self):
        self.same(apart_numbers(3, 2)[-1], (-11, 2))

    def test_wrong_entries(self):
        for value in NO_INTEGERS + (0, -1, 39, 40, LONG, LONGER, LONGEST):
            self.fails(InvalidNumber(value), apart_numbers, value, 2)
            self.fails(InvalidNumber(value), apart_numbers, 3, value)
            self.fails(InvalidNumber(value), apart_numbers, value, None)
        for one, other in ((1, 1), (3, 3), (2, 4), (38, 38), (38, 2), (2, 38), (38, 3), (20, 21), (4, 37), (1, 37)):
            self.fails(InvalidOperation, apart_numbers, one, other)
        self.same([len(apart_numbers(38, 1)), len(apart_numbers(1, 38)), len(apart_numbers(1, 2))], [20, 20, 2])


class Whole(Case):
    def test_little_time(self):
        start = perf_counter()
        for _ in range(5):
            pair_paper(14, tuple(range(14)))
            pair_relations(14)
            odd_relations(24)
        odd_relations(40)
        odd_relations(40)
        self.assertLess(perf_counter() - start, 1)

    def test_the_functions_stand_in_the_module_itself(self):
        for name in ("pair_rows", "pair_relations", "pair_left", "pair_paper", "is_pair_paper", "odd_relations",
                     "apart_numbers"):
            self.assertEqual(getattr(pairs, name).__module__, "risewords.pair.pairs")
