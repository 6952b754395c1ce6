"""[0.13], [12.1] to [12.8] and the functions of risewords.follow.relations."""

import random
from fractions import Fraction
from math import gcd, lcm
from time import perf_counter

from oracles import mix_of, pair, rank_of, solved
from risewords.errors import InvalidMix, InvalidNumber, InvalidOperation, InvalidRow, TooMany, UnknownName
from risewords.follow import relations
from risewords.follow.relations import (KINDS, bar_rows, does_follow, follow_paper, is_follow_paper, left_count,
                                        pairs_of, relation)
from risewords.weave.leading import led_back
from risewords.weave.products import joined, product, woven
from risewords.word.mixes import Mix
from risewords.word.rows import firm_rows, rows_of
from support import LONG, LONGER, LONGEST, NO_INTEGERS, NO_ROWS, STRANGE, Case
from test_products import NO_MIXES

ZERO, UNIT = Mix({}), Mix.of(())
NO_KINDS = STRANGE + ("All", "firm ", "both", ["all"], ("all",), KINDS, 0, 1, LONG, ZERO, "allfirm")
NO_WEIGHTS = NO_INTEGERS + (-1, 9, LONG, LONGER, LONGEST)
LEFT = {"all": (1, 0, 1, 1, 1, 2, 2, 3, 4), "firm": (1, 0, 1, 2, 3, 6, 9, 16, 24)}
SHORT = Mix({(4,): 1, (3, 1): -4})
NOT_FOLLOWING = [UNIT, Mix.of((2,)), Mix.of((3,)), Mix({(4,): 1}), Mix({(3, 2): 1, (2, 3): -1}), Mix.of((7,)),
                 Mix({(8,): (1, 3), (2,) * 4: -1})]


def by_products(one, other):
    return joined(Mix.of(one), Mix.of(other)) - woven(Mix.of(one), Mix.of(other))


def pairs_by_rule(weight, kind):
    """The pairs of a weight, chosen among all pairs of rows."""
    rows = [row for each in range(1, weight) for row in rows_of(each)]
    both = [(one, other) for one in rows for other in rows if sum(one) + sum(other) == weight and other[0] > 1]
    with_one = [(one, other) for one, other in both if one == (1,)]
    firm = [(one, other) for one, other in both if one[0] > 1
            and (sum(one) < sum(other) or (sum(one) == sum(other) and one <= other))]
    firm = sorted(firm, key=lambda pair: (sum(pair[0]), pair))
    return tuple(firm if kind == "firm" else sorted(with_one) + firm)


def numbers_of(mix, weight):
    return [Fraction(*mix.number_at(row)) for row in firm_rows(weight)]


def weighed(mix, weight, test):
    return sum(number * entry for number, entry in zip(numbers_of(mix, weight), test))


def sum_of(parts):
    """The mix that relations, each times a ratio, make."""
    total = ZERO
    for (one, other), number in parts:
        total = total + by_products(one, other) * pair(number)
    return total


def drawn_parts(chance, weight, kind="all", many=4):
    """Some pairs of a weight, with fractions."""
    pairs = pairs_of(weight, kind=kind)
    chosen = chance.sample(pairs, min(many, len(pairs)))
    return [(each, Fraction(chance.choice((-5, -2, -1, 1, 3, 4)), chance.randint(1, 6))) for each in chosen]


def as_paper(parts):
    return ("sum", tuple((each, pair(number)) for each, number in parts))


def dependency(weight):
    """Pairs with ratios whose relations add up to 0: one relation, and the sum of others that makes it."""
    for each in pairs_of(weight):
        _, parts = follow_paper(by_products(*each))
        rest = {other: Fraction(*ratio) for other, ratio in parts}
        rest[each] = rest.get(each, 0) - 1
        found = [(other, number) for other, number in rest.items() if number]
        if found:
            return found
    return None


class Relations(Case):
    def test_constants(self):
        self.same([relations.MOST_WEIGHT, relations.MAX_JOINT, relations.KINDS], [8, 12, ("all", "firm")])

    def test_relations_by_products(self):
        firm = [row for weight in range(1, 6) for row in firm_rows(weight)]
        for one in firm + [(1,)]:
            for other in firm:
                found = relation(one, other)
                self.same(found.terms, by_products(one, other).terms)
                self.assertTrue(found.is_firm_mix and found.is_level)

    def test_heavy_relations(self):
        for one, other in (((2, 1, 3), (2, 1, 1, 2)), ((6,), (6,)), ((1,), (2,) + (1,) * 9), ((10,), (2,)), ((1,), (11,))):
            self.same(relation(one, other).terms, by_products(one, other).terms)
        for one, other in (((2, 1, 3), (2, 1, 1, 3)), ((1,), (12,)), ((11,), (2,)), ((40,), (40,)), ((1,), (2, 38))):
            self.fails(TooMany(12), relation, one, other)

    def test_rows_without_a_relation(self):
        for one, other in (((), (2,)), ((2,), ()), ((), ()), ((1,), ()), ((1,), (1,)), ((2,), (1,)), ((1, 1), (2,)),
                           ((1, 2), (2,)), ((2,), (1, 2)), ((1,), (1, 39)), ((1, 39), (40,)), ((40,), (1,))):
            self.fails(InvalidOperation, relation, one, other)

    def test_wrong_rows(self):
        for value in NO_ROWS:
            self.fails(InvalidRow, relation, value, (2,))
            self.fails(InvalidRow, relation, value, ())
            self.fails(InvalidRow, relation, (2,), value)
            self.fails(InvalidRow, relation, (), value)


class Pairs(Case):
    def test_pairs_by_their_rule(self):
        for weight in range(9):
            for kind in KINDS:
                self.same(pairs_of(weight, kind=kind), pairs_by_rule(weight, kind))
            self.same(pairs_of(weight), pairs_of(weight, kind="all"))

    def test_how_many_pairs_there_are(self):
        self.same([len(pairs_of(weight)) for weight in range(9)], [0, 0, 0, 1, 3, 6, 15, 32, 74])

    def test_wrong_arguments(self):
        for call in (pairs_of, bar_rows, left_count):
            for value in NO_WEIGHTS:
                self.fails(InvalidNumber(value), call, value)
                self.fails(InvalidNumber(value), call, value, kind="both")
            for kind in NO_KINDS:
                self.fails(UnknownName(kind), call, 8, kind=kind)
                self.fails(UnknownName(kind), call, 0, kind=kind)


class Left(Case):
    def test_numbers_left(self):
        for kind in KINDS:
            self.same([left_count(weight, kind=kind) for weight in range(9)], list(LEFT[kind]))
        self.same([left_count(weight) for weight in range(9)], list(LEFT["all"]))
        for weight in range(3, 9):
            self.assertEqual(LEFT["all"][weight], LEFT["all"][weight - 2] + LEFT["all"][weight - 3])

    def test_numbers_left_by_ranks(self):
        for weight in range(9):
            for kind in KINDS:
                rows = [numbers_of(by_products(*each), weight) for each in pairs_by_rule(weight, kind)]
                self.same(left_count(weight, kind=kind), len(list(firm_rows(weight))) - rank_of(rows))

    def test_rows_that_bar_by_elimination(self):
        for weight in range(9):
            size = len(list(firm_rows(weight)))
            for kind in KINDS:
                left, leads = solved([numbers_of(by_products(*each), weight)[::-1] for each in pairs_by_rule(weight, kind)])
                wanted = []
                for free in [place for place in range(size) if place not in leads]:
                    row = [Fraction(place == free) for place in range(size)]
                    for solved_row, lead in zip(left, leads):
                        row[lead] = -solved_row[free]
                    bottom = lcm(*[entry.denominator for entry in row])
                    wanted.append(tuple(int(entry * bottom) for entry in row[::-1]))
                self.same(bar_rows(weight, kind=kind), tuple(tuple(entry // gcd(*row) for entry in row) for row in wanted[::-1]))

    def test_rows_that_bar(self):
        for weight in range(9):
            for kind in KINDS:
                found = bar_rows(weight, kind=kind)
                self.assertIs(type(found), tuple)
                # So many echelon rows that are tests make all of them.
                self.same(len(found), LEFT[kind][weight])
                for each in pairs_of(weight, kind=kind):
                    mix = by_products(*each)
                    self.assertTrue(all(weighed(mix, weight, test) == 0 for test in found))
                leads = [[place for place, entry in enumerate(row) if entry][0] for row in found]
                self.assertEqual(leads, sorted(set(leads)))
                for lead, row in zip(leads, found):
                    self.assertTrue(row[lead] > 0 and all(type(entry) is int for entry in row))
                    self.assertEqual([other[lead] for other in found if other is not row], [0] * (len(found) - 1))
                    self.assertEqual(gcd(*row), 1)
        self.same([bar_rows(0), bar_rows(1), bar_rows(2)], [((1,),), (), ((1,),)])


class Follows(Case):
    def test_sums_of_relations_follow(self):
        chance = random.Random(61)
        for weight in range(3, 9):
            for kind in KINDS:
                for _ in range(4):
                    mix = sum_of(drawn_parts(chance, weight, kind))
                    self.assertIs(does_follow(mix, kind=kind), True)
                    self.assertIs(does_follow(mix), True)

    def test_each_relation_follows(self):
        for weight in range(3, 8):
            for each in pairs_of(weight):
                self.assertIs(does_follow(relation(*each)), True)

    def test_either_or(self):
        chance = random.Random(62)
        for weight in (0, 2, 3, 4, 5, 6, 7, 8):
            rows = list(firm_rows(weight))
            for kind in KINDS:
                for _ in range(4):
                    mix = mix_of({row: chance.randint(-3, 3) for row in chance.sample(rows, min(len(rows), 5))})
                    barred = any(weighed(mix, weight, test) for test in bar_rows(weight, kind=kind))
                    self.assertIs(does_follow(mix, kind=kind), not barred)

    def test_what_does_not_follow(self):
        for mix in NOT_FOLLOWING:
            self.assertIs(does_follow(mix), False)
            self.assertIs(does_follow(mix, kind="firm"), False)

    def test_the_zero_mix_and_weights(self):
        for kind in KINDS:
            self.assertIs(does_follow(ZERO, kind=kind), True)
            self.same(follow_paper(ZERO, kind=kind), ("sum", ()))

    def test_long_numbers(self):
        mix = SHORT * (LONGER - 1, LONG)
        self.assertIs(does_follow(mix), True)
        self.assertIs(does_follow(mix + Mix({(2, 2): (1, LONGER - 1)})), False)
        self.assertIs(is_follow_paper(mix, follow_paper(mix)), True)

    def test_products_of_what_follows(self):
        chance = random.Random(63)
        for _ in range(12):
            weight = chance.randint(3, 6)
            mix = sum_of(drawn_parts(chance, weight, many=2))
            rows = [row for each in range(2, 9 - weight) for row in firm_rows(each)]
            for way in ("joined", "woven"):
                self.assertIs(does_follow(product(mix, Mix.of(chance.choice(rows)), way=way)), True)

    def test_what_is_not_true(self):
        one = relation((1,), (2,))
        self.same([does_follow(one), does_follow(one, kind="firm")], [True, False])
        self.assertIs(does_follow(Mix({(2, 2): 1, (4,): -1})), False)
        self.assertIs(does_follow(led_back(one)), False)

    def test_wrong_arguments(self):
        bad = Mix({(4,): 1, (3,): 1})
        for call in (does_follow, follow_paper, lambda mix, **more: is_follow_paper(mix, None, **more)):
            for value in NO_MIXES:
                self.fails(InvalidMix, call, value)
                self.fails(InvalidMix, call, value, kind="both")
            for kind in NO_KINDS:
                self.fails(UnknownName(kind), call, bad, kind=kind)
                self.fails(UnknownName(kind), call, ZERO, kind=kind)
            for mix in (bad, Mix.of((1,)), Mix.of((1, 2)), Mix({(3,): 1, (1, 2): 1}), Mix({(): 1, (2,): 1}),
                        Mix.of((1, 39)), Mix({(40,): 1, (39,): 1})):
                for kind in KINDS:
                    self.fails(InvalidOperation, call, mix, kind=kind)
            for mix in (Mix.of((9,)), Mix({(40,): 1, (2, 38): -1}), Mix.of((2, 1, 1, 1, 1, 1, 1, 1))):
                self.fails(TooMany(8), call, mix)
                self.fails(TooMany(8), call, mix, kind="firm")


class Papers(Case):
    def right(self, mix, paper, weight, kind):
        """Checks a paper part by part."""
        self.assertEqual([type(paper), len(paper)], [tuple, 2])
        if paper[0] == "sum":
            pairs = [each for each, _ in paper[1]]
            self.assertTrue(len(set(pairs)) == len(pairs) and set(pairs) <= set(pairs_by_rule(weight, kind)))
            self.assertTrue(all(ratio == pair(Fraction(*ratio)) and ratio[0] for _, ratio in paper[1]))
            self.assertEqual(sum_of([(each, Fraction(*ratio)) for each, ratio in paper[1]]), mix)
        else:
            self.assertEqual(paper[0], "test")
            self.assertEqual(len(paper[1]), len(list(firm_rows(weight))))
            self.assertNotEqual(weighed(mix, weight, paper[1]), 0)
            for each in pairs_by_rule(weight, kind):
                self.assertEqual(weighed(by_products(*each), weight, paper[1]), 0)

    def test_told_papers(self):
        chance = random.Random(64)
        for weight in (0, 2, 3, 4, 5, 6, 7):
            rows = list(firm_rows(weight))
            for kind in KINDS:
                mixes = [sum_of(drawn_parts(chance, weight, kind)) for _ in range(3)]
                mixes += [mix_of({row: chance.randint(1, 3) for row in chance.sample(rows, min(3, len(rows)))})]
                for mix in [mix for mix in mixes if mix]:
                    paper = follow_paper(mix, kind=kind)
                    self.right(mix, paper, weight, kind)
                    self.same(paper[0] == "sum", does_follow(mix, kind=kind))
                    self.assertIs(is_follow_paper(mix, paper, kind=kind), True)
        for mix in NOT_FOLLOWING:
            self.right(mix, follow_paper(mix), mix.top_weight, "all")

    def test_papers_of_the_weight_8(self):
        chance = random.Random(65)
        rows = list(firm_rows(8))
        for kind in KINDS:
            mixes = [sum_of(drawn_parts(chance, 8, kind, many)) for many in (1, 5, 12)] + [relation((2, 1, 1), (2, 2))]
            mixes += [mix_of({row: chance.randint(1, 3) for row in chance.sample(rows, 5)})]
            for mix in mixes:
                paper = follow_paper(mix, kind=kind)
                self.right(mix, paper, 8, kind)
                self.assertIs(paper[0] == "sum", mix is not mixes[-1])
                self.assertIs(is_follow_paper(mix, paper, kind=kind), True)
                told = [number for _, ratio in paper[1] for number in ratio] if paper[0] == "sum" else paper[1]
                self.assertTrue(all(abs(number) < 10 ** 400 for number in told))

    def test_sums_that_others_made(self):
        chance = random.Random(66)
        for weight in range(3, 9):
            for kind in KINDS:
                parts = drawn_parts(chance, weight, kind, 6)
                if parts:
                    mix = sum_of(parts)
                    self.assertIs(is_follow_paper(mix, as_paper(parts), kind=kind), True)
                    self.assertIs(is_follow_paper(mix, as_paper(parts[::-1]), kind=kind), True)
                    self.assertIs(is_follow_paper(mix * 2, as_paper(parts), kind=kind), False)
                    self.assertIs(is_follow_paper(mix, as_paper(parts[1:]), kind=kind), False)
                    self.assertIs(is_follow_paper(mix, as_paper(parts + parts[:1]), kind=kind), False)
                    other = [(parts[0][0], parts[0][1] + 1)] + parts[1:]
                    self.assertIs(is_follow_paper(mix, as_paper(other), kind=kind), False)

    def test_sums_with_what_adds_up_to_0(self):
        chance = random.Random(67)
        for weight in (6, 7):
            rest = dependency(weight)
            self.assertEqual(sum_of(rest), ZERO)
            parts = dict(drawn_parts(chance, weight, many=3))
            mix = sum_of(list(parts.items()))
            for each, number in rest:
                parts[each] = parts.get(each, 0) + number * LONGEST ** 9
            parts = [(each, number) for each, number in parts.items() if number]
            self.assertIs(is_follow_paper(mix, as_paper(parts)), True)
            self.assertIs(is_follow_paper(ZERO, as_paper(rest)), True)
            self.assertIs(is_follow_paper(ZERO, as_paper(rest[1:])), False)
            self.assertIs(is_follow_paper(ZERO, as_paper(rest + rest)), False)

    def test_papers_about_the_zero_mix(self):
        self.assertIs(is_follow_paper(ZERO, ("sum", ())), True)
        both = dependency(6) + dependency(7)
        self.assertEqual(sum_of(both), ZERO)
        self.assertIs(is_follow_paper(ZERO, as_paper(both)), False)
        for value in (("test", ()), ("test", (1,)), ("test", (0,)), ("test", (4, 3, 1, 4)),
                      ("sum", ((((2,), (2,)), (1, 1)),)), ("sum", ((((2,), (2,)), (0, 1)),))):
            self.assertIs(is_follow_paper(ZERO, value), False)
        firm = [part for part in dependency(7) if part[0][0] != (1,)]
        self.assertIs(is_follow_paper(ZERO, as_paper(dependency(7)), kind="firm"), len(firm) == len(dependency(7)))

    def test_sums_of_a_greater_weight_are_no_papers(self):
        # Both orders of two rows have one relation, but only one of them is a pair.
        for one, other in (((2,), (3,)), ((2,), (3, 3)), ((2,), (3, 4))):
            parts = (((one, other), (1, 1)), ((other, one), (-1, 1)))
            self.assertIs(is_follow_paper(ZERO, ("sum", parts)), False)

    def test_tests_that_others_made(self):
        chance = random.Random(68)
        for weight in (0, 2, 3, 4, 5, 6, 7, 8):
            for kind in KINDS:
                bars = bar_rows(weight, kind=kind)
                mix = Mix.of(chance.choice(list(firm_rows(weight))))
                test = [0] * len(bars[0])
                for row in bars:
                    times = chance.choice((-2, 1, 3, LONGEST ** 3))
                    test = [entry + times * more for entry, more in zip(test, row)]
                right = weighed(mix, weight, test) != 0
                self.assertIs(is_follow_paper(mix, ("test", tuple(test)), kind=kind), right)
                self.assertIs(is_follow_paper(mix, ("test", (0,) * len(test)), kind=kind), False)
                if weight > 3:
                    near = (test[0] + 1, *test[1:])
                    wrong = any(weighed(by_products(*each), weight, near) for each in pairs_of(weight, kind=kind))
                    self.assertTrue(wrong or kind == "firm")
                    if wrong:
                        self.assertIs(is_follow_paper(mix, ("test", near), kind=kind), False)

    def test_values_near_right_sums(self):
        part = (((2,), (2,)), (1, 1))
        self.assertIs(is_follow_paper(SHORT, ("sum", (part,))), True)
        wrong = [("sum", [part]), ["sum", (part,)], ("sum", part), ("sum", (part,), 1), ("sum",), ("test", (part,)),
                 ("Sum", (part,)), (part,), part, ("sum", (list(part),)), ("sum", (([(2,), (2,)], (1, 1)),)),
                 ("sum", ((((2,), [2]), (1, 1)),)), ("sum", ((((2,), (2,)), 1),)), ("sum", ((((2,), (2,)), [1, 1]),)),
                 ("sum", ((((2,), (2,)), (2, 2)),)), ("sum", ((((2,), (2,)), (-1, -1)),)),
                 ("sum", ((((2,), (2,)), (True, 1)),)), ("sum", ((((2,), (2,)), (1, True)),)),
                 ("sum", (part, (((1,), (3,)), (0, 1)))), ("sum", (part, part)), ("sum", ((((2,), (2,), (2,)), (1, 1)),)),
                 ("sum", ((((2,), (2,)), (1, 1), 1),)), ("sum", ((((2,), (2, True)), (1, 1)),)), ("sum", ()),
                 ("sum", (part, None)), ("sum", (part, (((1,), (2,)), (1, 1)))), ("sum", ((((2,), ()), (1, 1)),)),
                 ("sum", {part: 1}), {"sum": (part,)}, ("sum", ((SHORT, (1, 1)),)), SHORT, (ZERO, (part,)), ("sum", SHORT),
                 ("sum", ((((2,), (2,)), (10 ** 4000, 1)),)), ("sum", ((((True,), (3,)), (1, 1)), part)),
                 ("sum", ((((), (4,)), (1, 1)), part)), ("sum", ((((1, 1), (2,)), (1, 1)), part))]
        self.each(lambda value: is_follow_paper(SHORT, value), wrong + list(STRANGE) + [1, ()], False)
        one = relation((1,), (3,))
        self.assertIs(is_follow_paper(one, ("sum", ((((1,), (3,)), (1, 1)),))), True)
        self.assertIs(is_follow_paper(one, ("sum", ((((1,), (3,)), (1, 1)),)), kind="firm"), False)
        self.assertIs(is_follow_paper(one, ("sum", ((((True,), (3,)), (1, 1)),))), False)

    def test_pairs_in_the_other_order_are_none(self):
        mix = relation((2,), (3,))
        self.assertIs(is_follow_paper(mix, ("sum", ((((2,), (3,)), (1, 1)),))), True)
        self.assertIs(is_follow_paper(mix, ("sum", ((((3,), (2,)), (1, 1)),))), False)
        mix = relation((2, 1), (3,))
        self.assertIs(is_follow_paper(mix, ("sum", ((((2, 1), (3,)), (1, 1)),))), True)
        self.assertIs(is_follow_paper(mix, ("sum", ((((3,), (2, 1)), (1, 1)),))), False)

    def test_values_near_right_tests(self):
        mix, test = Mix({(4,): 1}), (4, 3, 1, 4)
        self.assertIs(is_follow_paper(mix, ("test", test)), True)
        wrong = [("test", list(test)), ["test", test], ("sum", test), ("test", test, 1), ("test", test[:3]),
                 ("test", test + (0,)), ("test", (4, 3, True, 4)), ("test", ((4, 1), (3, 1), (1, 1), (4, 1))),
                 ("test", (0, 0, 0, 0)), ("test", (4, 3, 1, 5)), ("test", (4, 3, "1", 4)), ("test", (4, 3, None, 4)),
                 ("test", 4), ("test",), (test,), test, ("test", (test,)), ("Test", test), (None, test)]
        self.each(lambda value: is_follow_paper(mix, value), wrong, False)
        self.assertIs(is_follow_paper(SHORT, ("test", test)), False)
        self.assertIs(is_follow_paper(mix, ("test", test), kind="firm"), True)
        for entries in ((0, 0, 1, 4), (0, 1, 0, 0), (1, 0, 0, 0), (1, 0, 1, 4)):
            right = weighed(mix, 4, entries) != 0 and weighed(SHORT, 4, entries) == 0
            self.assertIs(is_follow_paper(mix, ("test", entries), kind="firm"), right)
            self.assertIs(is_follow_paper(mix, ("test", entries)), False)

    def test_papers_take_little_time(self):
        start = perf_counter()
        mix = relation((2, 1), (2, 2))
        for kind in KINDS:
            for _ in range(2):
                follow_paper(mix, kind=kind)
                follow_paper(Mix.of((7,)), kind=kind)
                does_follow(mix, kind=kind)
                bar_rows(7, kind=kind)
                left_count(7, kind=kind)
        self.assertLess(perf_counter() - start, 1)

    def test_the_weight_8_takes_little_time(self):
        mixes = (Mix({(8,): 1, (7, 1): -1}), relation((2, 1), (2, 3)))
        for kind in KINDS:
            for call in (lambda: left_count(8, kind=kind), lambda: bar_rows(8, kind=kind),
                         lambda: does_follow(mixes[0], kind=kind), lambda: does_follow(mixes[1], kind=kind)):
                start = perf_counter()
                for _ in range(10):
                    call()
                self.assertLess(perf_counter() - start, 0.5)

    def test_the_functions_stand_in_the_module_itself(self):
        for name in ("relation", "pairs_of", "does_follow", "follow_paper", "is_follow_paper", "bar_rows", "left_count"):
            self.assertEqual(getattr(relations, name).__module__, "risewords.follow.relations")
