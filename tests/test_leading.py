"""[6.1] to [6.7] and the functions of risewords.weave.leading."""

import random
from fractions import Fraction
from math import factorial
from time import perf_counter

from oracles import chain_sum, led_on, mix_of, value_of
from risewords.errors import InvalidMix, InvalidRow, TooMany, UnknownName
from risewords.weave import leading
from risewords.weave.leading import cuts, led_back, led_forth, mix_cuts, undone
from risewords.weave.products import joined, laid, product, woven
from risewords.word.mixes import Mix
from risewords.word.rows import joinings, rows_of
from support import NO_ROWS, Case
from test_products import NO_MIXES, NO_WAYS, drawn

ZERO, UNIT = Mix({}), Mix.of(())
SMALL = [row for weight in range(7) for row in rows_of(weight)]
LONG_ROWS = [(1,) * 12, (2, 1) * 6, (3,) * 11 + (7,), (1,) * 11 + (29,)]
TOO_LONG = [Mix.of((1,) * 13), Mix.of((1,) * 40), Mix({(1,) * 13: 1, (2,): (1, 3)}), Mix({(): 1, (2,) * 13: -1})]


def blockings(row):
    """All ways to cut a row into blocks, by the places at which it is cut or not."""
    found = []
    for code in range(2 ** max(len(row) - 1, 0)):
        blocks = [[row[0]]] if row else []
        for place, entry in enumerate(row[1:]):
            if code >> place & 1:
                blocks.append([entry])
            else:
                blocks[-1].append(entry)
        found.append(blocks)
    return found


def forth(row):
    return {tuple(sum(block) for block in blocks): number_of(blocks, lambda size: Fraction(1, factorial(size)))
            for blocks in blockings(row)}


def back(row):
    return {tuple(sum(block) for block in blocks): number_of(blocks, lambda size: Fraction((-1) ** (size - 1), size))
            for blocks in blockings(row)}


def number_of(blocks, rule):
    number = Fraction(1)
    for block in blocks:
        number *= rule(len(block))
    return number


def undone_joined(row):
    return {tuple(sum(block) for block in blocks): (-1) ** len(row) for blocks in blockings(row[::-1])}


def undone_laid(row):
    return {row[::-1]: (-1) ** len(row)}


def drawn_mixes(many=12, weight=6):
    chance = random.Random(11)
    return [ZERO, UNIT] + [drawn(chance, weight, 4) for _ in range(many)]


def pair_products(one, other, way):
    """The sum over all pairs of a cut of the one and one of the other of the pairs of both products."""
    total = {}
    for (front, rear), left in mix_cuts(one).items():
        for (ahead, behind), right in mix_cuts(other).items():
            for head, top in product(Mix.of(front), Mix.of(ahead), way=way):
                for tail, count in product(Mix.of(rear), Mix.of(behind), way=way):
                    number = Fraction(*left) * Fraction(*right) * Fraction(*top) * Fraction(*count)
                    total[head, tail] = total.get((head, tail), 0) + number
    return {key: total[key] for key in total if total[key]}


def as_fractions(pairs):
    return {key: Fraction(*pairs[key]) for key in pairs}


class Led(Case):
    def test_constants(self):
        self.same(leading.MOST_ENTRIES, 12)

    def test_blockings_tell_joinings(self):
        for row in SMALL:
            self.same(tuple(sorted(forth(row))), joinings(row))
            self.same(len(blockings(row)), 2 ** (len(row) - 1) if row else 1)

    def test_forth_and_back_by_their_rules(self):
        for row in SMALL + LONG_ROWS[:1]:
            self.same(led_forth(Mix.of(row)).terms, mix_of(forth(row)).terms)
            self.same(led_back(Mix.of(row)).terms, mix_of(back(row)).terms)

    def test_rows_of_one_to_twelve_entries(self):
        chance = random.Random(12)
        for size in range(1, 13):
            for row in ((1,) * size, tuple(chance.randint(1, 3) for _ in range(size))):
                for call, rule in ((led_forth, forth), (led_back, back)):
                    found = call(Mix.of(row))
                    self.same(found.terms, mix_of(rule(row)).terms)
                    self.same(len(found), 2 ** (size - 1))
                self.same(led_back(led_forth(Mix.of(row))).terms, {row: (1, 1)})
                self.same(led_forth(led_back(Mix.of(row))).terms, {row: (1, 1)})
        ones = Mix.of((1,) * 12)
        self.same([led_forth(ones).number_at((12,)), led_back(ones).number_at((12,))], [(1, 479001600), (-1, 12)])

    def test_leading_takes_little_time(self):
        mixes = (Mix.of((1,) * 12), Mix.of((2, 1, 3, 1, 2, 1, 4, 1, 2, 1, 2, 5)))
        for call in (led_forth, led_back):
            for mix in mixes:
                start = perf_counter()
                for _ in range(20):
                    call(mix)
                self.assertLess(perf_counter() - start, 0.5)

    def test_blocks_of_all_sizes(self):
        for size in range(1, 13):
            row = (3,) * size
            self.same(led_forth(Mix.of(row)).number_at((3 * size,)), (1, factorial(size)))
            self.same(led_back(Mix.of(row)).number_at((3 * size,)), ((-1) ** (size - 1), size))
            self.same(led_forth(Mix.of(row)).number_at(row), (1, 1))

    def test_mixes_are_led_row_by_row(self):
        for mix in drawn_mixes():
            self.same(led_forth(mix).terms, led_on(mix, forth).terms)
            self.same(led_back(mix).terms, led_on(mix, back).terms)

    def test_forth_and_back_undo_one_another(self):
        for mix in drawn_mixes() + [Mix.of(row) for row in SMALL + LONG_ROWS]:
            self.same(led_back(led_forth(mix)).terms, mix.terms)
            self.same(led_forth(led_back(mix)).terms, mix.terms)

    def test_weights_and_firm_rows_stay(self):
        for row in SMALL[1:] + LONG_ROWS:
            for call in (led_forth, led_back):
                found = call(Mix.of(row))
                self.same([found.is_level, found.top_weight, found.is_firm_mix], [True, sum(row), row[0] > 1])

    def test_products_led(self):
        chance = random.Random(12)
        for _ in range(15):
            one, other = drawn(chance, 4), drawn(chance, 4)
            self.same(led_forth(laid(one, other)).terms, joined(led_forth(one), led_forth(other)).terms)
            self.same(led_back(joined(one, other)).terms, laid(led_back(one), led_back(other)).terms)

    def test_nothing_alike_for_woven_products(self):
        one, two = Mix.of((1,)), Mix.of((2,))
        self.assertNotEqual(led_forth(woven(one, two)), woven(led_forth(one), led_forth(two)))
        self.assertNotEqual(led_forth(woven(one, two)), joined(led_forth(one), led_forth(two)))
        self.assertNotEqual(led_back(woven(one, two)), woven(led_back(one), led_back(two)))

    def test_what_is_not_true(self):
        self.assertTrue(any(bottom > 1 for _, (_, bottom) in led_forth(Mix.of((1, 1)))))
        self.assertTrue(any(bottom > 1 for _, (_, bottom) in led_back(Mix.of((1, 1)))))
        self.assertNotEqual(led_forth(led_forth(Mix.of((2, 1)))), Mix.of((2, 1)))

    def test_wrong_arguments(self):
        for call in (led_forth, led_back):
            for value in NO_MIXES:
                self.fails(InvalidMix, call, value)
            for mix in TOO_LONG:
                self.fails(TooMany(12), call, mix)
            self.same(call(Mix.of((40,))).terms, {(40,): (1, 1)})


class Cuts(Case):
    def test_cuts_by_their_rule(self):
        for row in SMALL + LONG_ROWS:
            self.same(cuts(row), tuple((row[:place], row[place:]) for place in range(len(row) + 1)))

    def test_cuts_of_mixes(self):
        for mix in drawn_mixes() + [Mix.of(LONG_ROWS[1])]:
            found = mix_cuts(mix)
            self.same(list(found), sorted((row[:at], row[at:]) for row, _ in mix for at in range(len(row) + 1)))
            for front, rear in found:
                self.same(found[front, rear], mix.number_at(front + rear))
        self.same(mix_cuts(ZERO), {})

    def test_cuts_of_products(self):
        chance = random.Random(13)
        for _ in range(8):
            one, other = drawn(chance, 4), drawn(chance, 3)
            for way in ("laid", "joined"):
                found = as_fractions(mix_cuts(product(one, other, way=way)))
                self.assertEqual(found, pair_products(one, other, way))

    def test_cuts_of_woven_products_are_not_alike(self):
        one = Mix.of((2,))
        self.assertNotEqual(as_fractions(mix_cuts(woven(one, one))), pair_products(one, one, "woven"))

    def test_cutting_goes_along_with_leading(self):
        for mix in drawn_mixes():
            total = {}
            for (front, rear), number in mix_cuts(mix).items():
                for head, top in led_forth(Mix.of(front)):
                    for tail, count in led_forth(Mix.of(rear)):
                        share = Fraction(*number) * Fraction(*top) * Fraction(*count)
                        total[head, tail] = total.get((head, tail), 0) + share
            self.assertEqual(as_fractions(mix_cuts(led_forth(mix))), {key: total[key] for key in total if total[key]})

    def test_no_state_is_shared(self):
        mix = Mix({(2, 1): (1, 2)})
        mix_cuts(mix).clear()
        self.same([len(mix_cuts(mix)), mix.terms], [3, {(2, 1): (1, 2)}])

    def test_wrong_arguments(self):
        for value in NO_ROWS:
            self.fails(InvalidRow, cuts, value)
        for row in ((1,) * 13, (1,) * 40, (2,) * 13):
            self.fails(TooMany(12), cuts, row)
        for value in NO_MIXES:
            self.fails(InvalidMix, mix_cuts, value)
        for mix in TOO_LONG:
            self.fails(TooMany(12), mix_cuts, mix)


class Undone(Case):
    def test_undone_by_their_rules(self):
        for row in SMALL + LONG_ROWS[:2]:
            self.same(undone(Mix.of(row)).terms, mix_of(undone_joined(row)).terms)
            self.same(undone(Mix.of(row), way="joined").terms, mix_of(undone_joined(row)).terms)
            self.same(undone(Mix.of(row), way="laid").terms, mix_of(undone_laid(row)).terms)
        for mix in drawn_mixes():
            self.same(undone(mix).terms, led_on(mix, undone_joined).terms)
            self.same(undone(mix, way="laid").terms, led_on(mix, undone_laid).terms)

    def test_products_over_all_cuts(self):
        for row in SMALL:
            for way in ("laid", "joined"):
                ahead, behind = ZERO, ZERO
                for front, rear in cuts(row):
                    ahead = ahead + product(undone(Mix.of(front), way=way), Mix.of(rear), way=way)
                    behind = behind + product(Mix.of(front), undone(Mix.of(rear), way=way), way=way)
                wanted = {(): (1, 1)} if row == () else {}
                self.same([ahead.terms, behind.terms], [wanted, wanted])

    def test_products_undone(self):
        chance = random.Random(14)
        for _ in range(12):
            one, other = drawn(chance, 4), drawn(chance, 4)
            for way in ("laid", "joined"):
                self.same(undone(product(one, other, way=way), way=way).terms,
                          product(undone(one, way=way), undone(other, way=way), way=way).terms)

    def test_undone_twice_and_led_forth(self):
        for mix in drawn_mixes() + [Mix.of(row) for row in LONG_ROWS]:
            for way in ("laid", "joined"):
                self.same(undone(undone(mix, way=way), way=way).terms, mix.terms)
            self.same(led_forth(undone(mix, way="laid")).terms, undone(led_forth(mix), way="joined").terms)

    def test_cut_sums_of_undone_rows(self):
        for row in SMALL[:32]:
            for bound in range(1, 7):
                wanted = (-1) ** len(row) * chain_sum(bound, row[::-1], slack=True)
                self.same(value_of(bound, undone(Mix.of(row))), wanted)

    def test_what_is_not_true(self):
        self.assertEqual(len(undone(Mix.of((2, 1)))), 2)

    def test_wrong_arguments(self):
        for value in NO_MIXES:
            self.fails(InvalidMix, undone, value)
            self.fails(InvalidMix, undone, value, way="woven")
        for way in NO_WAYS + ("woven",):
            self.fails(UnknownName(way), undone, UNIT, way=way)
            self.fails(UnknownName(way), undone, TOO_LONG[0], way=way)
        for mix in TOO_LONG:
            for way in ("laid", "joined"):
                self.fails(TooMany(12), undone, mix, way=way)


class Module(Case):
    def test_the_functions_stand_in_the_module_itself(self):
        for name in ("led_forth", "led_back", "cuts", "mix_cuts", "undone"):
            self.assertEqual(getattr(leading, name).__module__, "risewords.weave.leading")
