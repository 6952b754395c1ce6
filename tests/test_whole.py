"""[0.1] to [0.18] over the whole program, across its modules."""

import inspect
import operator
import random
from fractions import Fraction
from importlib import import_module
from pathlib import Path

from oracles import mix_of, pair, rank_of, value_of
from risewords.base.ratios import is_integer, is_ratio
from risewords.base.tables import is_span_paper, is_table
from risewords.cut.chains import each_chain, high_chains, is_chain, low_chains
from risewords.cut.sums import cut_sum, cut_value, each_cut_sum, slack_mix, slack_sum
from risewords.cut.turning import sum_by_tops, top_sum, turned_value
from risewords.desk.desk import Desk
from risewords.errors import InvalidNumber, InvalidRow, Refused, TooMany, UnknownName
from risewords.follow.bases import base_rows, coordinates, two_share
from risewords.follow.families import derived_mix, dual_mix, raised_mix, round_mix, sum_mix
from risewords.follow.relations import (KINDS, bar_rows, does_follow, follow_paper, is_follow_paper, left_count, pairs_of,
                                        relation)
from risewords.order.orders import Order, zigzag_gap
from risewords.pair.pairs import is_pair_paper, odd_relations, pair_relations
from risewords.pair.rounds import cusp_count, is_round, round_rows
from risewords.prime.residues import cut_rest, each_rest
from risewords.side.letters import Letters, barring_basis, is_barring, is_lie
from risewords.text.strings import is_text
from risewords.value.values import is_within, mix_span, value_text
from risewords.weave.leading import led_back, led_forth, mix_cuts, undone
from risewords.weave.lyndon import is_lyndon, lyndon_form, lyndon_rows, mix_of_form
from risewords.weave.products import WAYS, is_product, joined, laid, power, product, woven
from risewords.whole.polynomials import made_whole, mix_of_whole, whole_gap
from risewords.word.mixes import Mix
from risewords.word.rows import dual_row, firm_rows, is_row, rows_of, turned_row, word_of
from support import LONG, LONGER, LONGEST, STRANGE, Case
from test_products import drawn

ZERO, ONE, TWO, THREE = Mix({}), Mix.of((1,)), Mix.of((2,)), Mix.of((3,))
FIRM = [row for weight in range(1, 8) for row in firm_rows(weight)]
OBJECTS = (TWO, Letters.of("xy"), Order(("y", "x"), ((0, 1),)), Desk())
STRANGER = STRANGE + OBJECTS + (0, 1, LONG, LONGER, LONGEST, -LONGEST, (LONGEST, 1), (LONGEST,), "row 1", ("sum", ()),
                                ("test", (1,)), ("numbers", ((1, 1),)), Mix, len)
JUDGES = {
    "is_integer": is_integer, "is_ratio": is_ratio, "is_table": is_table, "is_row": is_row, "is_lyndon": is_lyndon, "is_lie": is_lie,
    "is_barring": is_barring, "is_text": is_text, "is_span_paper": lambda value: is_span_paper(((1, 2),), (1, 2), value),
    "is_product": lambda value: is_product((1,), (2,), value), "is_chain": lambda value: is_chain(4, (2, 1), value),
    "is_follow_paper": lambda value: is_follow_paper(TWO, value), "is_round": lambda value: is_round(12, value),
    "is_pair_paper": lambda value: is_pair_paper(3, (1, 0, 0), value), "is_within": lambda value: is_within(TWO, value),
}


def interface():
    """The pairs of a module or a class and a signature that it lists."""
    found, module = [], None
    for line in Path(__file__).with_name("interface.txt").read_text().splitlines():
        if line.startswith(" "):
            found.append((module, line.strip()))
        else:
            module = line
    return found


def place_of(name):
    """The module or the class with a dotted name."""
    parts = name.split(".")
    if parts[-1][0].isupper():
        return getattr(import_module(".".join(parts[:-1])), parts[-1])
    return import_module(name)


class Interface(Case):
    def test_names_and_parameters(self):
        for module, wanted in interface():
            name = wanted.split("(")[0]
            home = place_of(module)
            found = getattr(home, name)
            shown = str(inspect.signature(found)).replace("'", '"')
            self.assertEqual(name + shown, wanted, module)
            if isinstance(home, type):
                self.assertIn(name, vars(home))
            else:
                self.assertEqual(found.__module__, module)

    def test_objects_show_their_properties_at_once(self):
        told = {"terms": OBJECTS[:2], "top_weight": OBJECTS[:1], "is_firm_mix": OBJECTS[:1], "is_level": OBJECTS[:1],
                "weight": OBJECTS[1:2], "is_zero": OBJECTS[1:2], "colours": OBJECTS[2:3], "pairs": OBJECTS[2:3],
                "size": OBJECTS[2:3], "is_firm_order": OBJECTS[2:3], "names": OBJECTS[3:], "labels": OBJECTS[3:],
                "deeds": OBJECTS[3:]}
        for name, objects in told.items():
            for each in objects:
                self.assertTrue(hasattr(each, name))
                self.assertIsInstance(vars(type(each))[name], property)


class Conventions(Case):
    def test_objects_are_equal_to_nothing_else(self):
        for each in OBJECTS:
            for value in STRANGER:
                if value is not each:
                    self.assertTrue(not each == value and each != value and not value == each)
        for value in STRANGER:
            self.assertIs(value in TWO, False)
            self.assertIs(value in Desk(), False)

    def test_only_mixes_are_iterated_over(self):
        self.same(list(TWO), [((2,), (1, 1))])
        for each in OBJECTS[1:]:
            for call in (iter, list, sorted, lambda value: [*value]):
                self.fails(TypeError, call, each)
        for each in OBJECTS[1:3]:
            self.fails(TypeError, operator.contains, each, "xy")

    def test_other_operands(self):
        signs = (operator.add, operator.sub, operator.mul, operator.floordiv, operator.mod, operator.pow, operator.and_,
                 operator.or_, operator.xor, operator.lt, operator.le, operator.gt, operator.ge, operator.lshift)
        for sign in signs:
            for one in OBJECTS:
                for other in OBJECTS + (None, True, "x", [1], {"x": 1}):
                    fine = (isinstance(one, (Mix, Letters)) and type(one) is type(other) and sign in (operator.add, operator.sub)
                            or isinstance(one, Letters) and isinstance(other, Letters) and sign is operator.mul)
                    if not fine:
                        self.fails(TypeError, sign, one, other)
                        self.fails(TypeError, sign, other, one)

    def test_returned_dicts_ascend_and_are_new(self):
        mix = Mix({(3,): 1, (2, 1): (-1, 2), (): 2, (1, 1, 1): 1})
        calls = (lambda: mix.terms, lambda: Letters({"yx": (1, 1), "xy": (-1, 2)}).terms, lambda: lyndon_form(mix),
                 lambda: mix_cuts(mix), lambda: coordinates(Mix({(5,): 1, (4, 1): 1, (2,): 3})))
        for call in calls:
            found = call()
            self.assertEqual(list(found), sorted(found))
            self.assertTrue(len(found) > 1)
            found.clear()
            self.assertTrue(len(call()) > 1)

    def test_arguments_stay_as_they_are(self):
        terms = {(3,): 1, (2, 1): (-1, 2)}
        form = {((2,), (2,)): (1, 1), ((4,),): (1, 2)}
        told = {(2, 3): (1, 2), (3, 2): (0, 1)}
        words = {"yx": (1, 1), "xy": (-1, 2)}
        for call, value in ((Mix, terms), (mix_of_form, form), (import_module("risewords.follow.bases").mix_of_coordinates, told),
                            (Letters, words), (lambda value: is_product((1,), (2,), value), terms)):
            before = repr(value)
            call(value)
            self.assertEqual(repr(value), before)
        mix = Mix(terms)
        for call in (led_forth, led_back, undone, lyndon_form, mix_cuts, coordinates, follow_paper, lambda one: one + one,
                     lambda one: joined(one, one), lambda one: -one, lambda one: one * 3, lambda one: mix_span(one, 3)):
            call(mix)
            self.same(mix.terms, {(2, 1): (-1, 2), (3,): (1, 1)})

    def test_equal_calls_have_equal_results(self):
        mix = Mix({(3, 2): 1, (2, 2, 1): (-1, 2)})
        for call in (lambda: follow_paper(mix), lambda: bar_rows(6), lambda: coordinates(mix), lambda: odd_relations(16),
                     lambda: barring_basis(5)[0].terms, lambda: mix_span(mix, 9), lambda: lyndon_form(mix)):
            self.same(call(), call())

    def test_generators_raise_with_their_first_element(self):
        for call, args, error in ((rows_of, (17,), InvalidNumber(17)), (firm_rows, (-1,), InvalidNumber(-1)),
                                  (lyndon_rows, (0,), InvalidNumber(0)), (each_cut_sum, ([2],), InvalidRow),
                                  (each_chain, (0, (2,)), InvalidNumber(0)), (each_chain, (200, (9,)), TooMany(2000)),
                                  (each_rest, ("x",), InvalidRow)):
            found = call(*args)
            self.fails(error, next, found)
        self.same(next(OBJECTS[2].lists()), (1, 0))

    def test_judging_functions_take_every_value(self):
        for name, judge in JUDGES.items():
            for value in STRANGER:
                self.assertIs(type(judge(value)), bool, name)
            self.assertIs(judge(True), False)
            self.assertIs(judge(None), False)
        self.same([is_integer(True), is_row((True,)), is_ratio((True, 1)), is_table(((True,),)), is_lyndon((True,))], [False] * 5)
        self.same([(2, True) in Mix.of((2, 1)), (2, 1) in Mix.of((2, 1))], [False, True])

    def test_papers_are_judged_whoever_made_them(self):
        mix = relation((2,), (3,)) * (5, 7) - relation((1,), (4,))
        kind, parts = follow_paper(mix)
        self.assertIs(is_follow_paper(mix, (kind, parts[::-1])), True)
        self.assertIs(is_follow_paper(mix, (kind, tuple((each, (ratio[0] + ratio[1], ratio[1])) for each, ratio in parts))), False)
        relations = pair_relations(9)
        self.assertIs(is_pair_paper(9, relations[2], ("numbers", ((0, 1), (0, 1), (1, 1), (0, 1)))), True)


class Products(Case):
    def roads(self, one, other):
        """The joined product of two mixes, on several roads."""
        yield joined(one, other)
        yield product(other, one, way="joined")
        # What is led back from joined products are laid ones.
        yield led_forth(laid(led_back(one), led_back(other)))
        # Polynomials in Lyndon rows are multiplied as such.
        form = {}
        for left, number in lyndon_form(one).items():
            for right, factor in lyndon_form(other).items():
                key = tuple(sorted(left + right, key=word_of, reverse=True))
                form[key] = form.get(key, 0) + Fraction(*number) * Fraction(*factor)
        yield mix_of_form({key: pair(number) for key, number in form.items() if number})
        # A product is what squares leave: (a + b) ** 2 less both squares, halved.
        yield (power(one + other, 2) - power(one, 2) - power(other, 2)) * (1, 2)
        yield undone(joined(undone(one), undone(other)))

    def test_one_product_by_all_roads(self):
        chance = random.Random(161)
        for _ in range(12):
            one, other = drawn(chance, 4), drawn(chance, 4)
            found = list(self.roads(one, other))
            for each in found[1:]:
                self.same(each.terms, found[0].terms)
            for bound in (1, 3, 6):
                self.same(cut_value(bound, found[0]), pair(Fraction(*cut_value(bound, one)) * Fraction(*cut_value(bound, other))))
                self.same(cut_value(bound, one), pair(value_of(bound, one)))

    def test_woven_products_by_all_roads(self):
        for one in FIRM[:8]:
            for other in FIRM[:8]:
                orders = []
                for row in (one, other):
                    colours = tuple(word_of(row)[::-1])
                    orders.append(Order(colours, tuple((place, place + 1) for place in range(len(colours) - 1))))
                self.same([orders[0].mix().terms, orders[1].mix().terms], [{one: (1, 1)}, {other: (1, 1)}])
                found = woven(Mix.of(one), Mix.of(other))
                self.same(orders[0].beside(orders[1]).mix().terms, found.terms)
                duals = {}
                for row, ratio in woven(Mix.of(dual_row(one)), Mix.of(dual_row(other))):
                    duals[dual_row(row)] = ratio
                self.same(found.terms, Mix(duals).terms)

    def test_each_mix_is_one_polynomial(self):
        chance = random.Random(162)
        for way in WAYS:
            for _ in range(6):
                mix = drawn(chance, 6)
                form = lyndon_form(mix, way=way)
                self.same(mix_of_form(form, way=way).terms, mix.terms)
                self.same(lyndon_form(mix_of_form(form, way=way), way=way), form)
                total = ZERO
                for rows, ratio in form.items():
                    made = Mix.of(())
                    for row in rows:
                        made = product(made, Mix.of(row), way=way)
                    total = total + made * ratio
                self.same(total.terms, mix.terms)

    def test_polynomials_in_the_row_1(self):
        for row in [row for weight in range(6) for row in rows_of(weight)]:
            for way in ("joined", "woven"):
                self.same(mix_of_whole(made_whole(row, way=way), way=way).terms, {row: (1, 1)})


class Chains(Case):
    def test_sums_over_chains_by_all_roads(self):
        for row in FIRM[:20]:
            for bound in (1, 2, 3, 6):
                found = cut_sum(bound, row)
                self.same([low_chains(bound, row), high_chains(bound, dual_row(row))], [found, found])
                self.same(cut_value(bound, Mix.of(row)), found)
                self.same(slack_sum(bound, row), cut_value(bound, slack_mix(row)))
                self.same(sum_by_tops(bound, row), slack_sum(bound, row))
                if bound > 1:
                    self.same(turned_value(bound - 2, row), top_sum(bound - 2, turned_row(row)))


class Follows(Case):
    def test_just_one_of_two_things_is_there(self):
        chance = random.Random(163)
        for weight in range(2, 9):
            tests = bar_rows(weight)
            rows = list(firm_rows(weight))
            for _ in range(4):
                mix = mix_of({row: chance.randint(-2, 2) for row in chance.sample(rows, min(3, len(rows)))})
                if chance.random() < 0.5 and weight > 2:
                    mix = relation(*chance.choice(pairs_of(weight))) * 3
                follows = does_follow(mix)
                kind, told = follow_paper(mix)
                self.same([kind == "sum", coordinates(mix) == {}], [follows, follows])
                sums = [sum(Fraction(*ratio) * test[rows.index(row)] for row, ratio in mix) for test in tests]
                self.assertIs(any(sums), not follows)
                self.assertIs(is_follow_paper(mix, ("sum", ())), not mix)
                if follows and len(mix) <= 60:
                    low, high = mix_span(mix, 20)
                    self.assertTrue(low[0] <= 0 <= high[0])
                if follows:
                    self.assertIs(Desk().during(lambda desk: desk.keep("f", mix) + desk.claim("a", ("follows", "f"))) == 3, True)

    def test_base_rows_are_what_is_left(self):
        for weight in range(9):
            self.same([left_count(weight), len(bar_rows(weight))], [len(base_rows(weight))] * 2)

    def test_all_families_follow(self):
        for mix in (sum_mix(8, 3), dual_mix((3, 1, 2, 2)), raised_mix((2, 1, 2), 3), derived_mix((3, 2), 3), round_mix((2, 1, 4)),
                    zigzag_gap((2, 1, 3, 2)), zigzag_gap((3, 1, 2, 2)), *whole_gap((1, 1, 3, 2)), *whole_gap((1, 2, 1, 3))):
            for part in [mix.part(weight) for weight in range(9)]:
                self.assertIs(does_follow(part), True)

    def test_shares_of_values(self):
        # The value of (2) is a sixth of pi squared, that of (4) two fifths of its square.
        for row, many in (((4,), 2), ((3, 1), 2), ((6,), 3), ((2, 2, 2), 3)):
            share = Fraction(*two_share(Mix.of(row)))
            power_text, text = value_text((2,), 30), value_text(row, 20)
            value = Fraction(power_text) ** many * share
            self.assertTrue(abs(value - Fraction(text)) < Fraction(1, 10 ** 18))

    def test_desk_and_claims_near_true_ones(self):
        one = Desk()
        one.keep("f", relation((2,), (3,)))
        self.same(one.claim("a", ("follows", "f")), 2)
        self.fails(Refused(("claim", "a")), one.keep, "f", relation((2,), (3,)) + Mix({(5,): (1, 7)}))
        self.fails(UnknownName("g"), one.claim, "b", ("follows", "g"))


class Entries(Case):
    def test_as_many_odd_relations_as_polynomials(self):
        for weight in range(4, 41, 2):
            self.same([len(odd_relations(weight)), len(round_rows(weight))], [cusp_count(weight)] * 2)


class NotTrue(Case):
    def test_what_is_not_true(self):
        self.assertFalse(joined(TWO, ONE) == woven(TWO, ONE))
        self.same([does_follow(relation((1,), (2,)), kind=kind) for kind in KINDS], [True, False])
        self.assertNotEqual(cut_sum(9, (3,)), cut_sum(9, turned_row((3,))))
        self.same([cut_rest(prime, (prime - 1,)) for prime in (5, 7, 11)], [4, 6, 10])

    def test_values_that_are_no_polynomials_in_those_of_one_entry(self):
        rows = [power(TWO, 4), joined(TWO, power(THREE, 2)), joined(THREE, Mix.of((5,))), Mix.of((8,)), joined(TWO, Mix.of((6,))),
                power(Mix.of((4,)), 2), joined(power(TWO, 2), Mix.of((4,)))]
        found = [[Fraction(*coordinates(mix).get(row, (0, 1))) for row in base_rows(8)] for mix in rows]
        self.same([rank_of(found), len(base_rows(8))], [3, 4])
