"""[19.1] to [19.5] and the functions of risewords.value.values."""

import random
from fractions import Fraction
from time import perf_counter

from oracles import chain_sum, mix_of, pair
from risewords.errors import InvalidMix, InvalidNumber, InvalidOperation, InvalidRow, TooMany
from risewords.cut.sums import cut_sum
from risewords.follow.relations import pairs_of, relation
from risewords.value import values
from risewords.value.values import half_sum, is_within, mix_span, value_span, value_text
from risewords.weave.products import joined, woven
from risewords.word.mixes import Mix
from risewords.word.rows import dual_row, firm_rows, rows_of
from support import LONG, LONGER, LONGEST, NO_INTEGERS, NO_ROWS, STRANGE, Case
from test_products import NO_MIXES

ZERO, TWO = Mix({}), Mix.of((2,))
FIRM = [row for weight in range(7) for row in firm_rows(weight)]
HEAVY = [(20,), (2,) + (1,) * 18, (2,) * 10, (3, 1) * 5, (2, 1, 3, 1, 4, 1, 2, 6), (19, 1), (2, 18), (10, 10)]
NOT_FIRM = [(1,), (1, 2), (1, 1, 1), (1, 19), (1, 39), (1,) * 40]
NO_DIGITS = NO_INTEGERS + (-1, 41, LONG, LONGER, LONGEST)
# Known digits of the values, cut.
KNOWN = {(2,): "1.6449340668482264364724151666460251892189", (3,): "1.2020569031595942853997381615114499907649",
         (4,): "1.0823232337111381915160036965411679027747", (5,): "1.0369277551433699263313654864570341680570",
         (6,): "1.0173430619844491397145179297909205279018", (2, 2): "0.8117424252833536436370027724058759270810"}


def half_by_chains(row, steps):
    """The half sum by all chains to a greatest member."""
    total = Fraction(0)
    for greatest in range(1, steps + 1):
        total += Fraction(1, 2 ** greatest * greatest ** row[0]) * chain_sum(greatest, row[1:])
    return total


def ends(span):
    return [Fraction(*end) for end in span]


class Halves(Case):
    def test_constants(self):
        self.same([values.MAX_VALUED, values.MAX_DIGITS, values.MOST_STEPS], [20, 40, 60])

    def test_half_sums_by_chains(self):
        for row in [row for weight in range(1, 6) for row in rows_of(weight)]:
            for steps in (0, 1, 2, 3, 6, 9):
                self.same(half_sum(row, steps), pair(half_by_chains(row, steps)))

    def test_half_sums_by_cut_sums(self):
        for row in ((1,), (2, 1), (1, 3, 1), (20,), (1,) * 20, (2, 1) * 6, (5, 5, 5, 5)):
            for steps in (1, 7, 59, 60):
                total = sum(Fraction(*cut_sum(greatest, row[1:])) / (2 ** greatest * greatest ** row[0])
                            for greatest in range(1, steps + 1))
                self.same(half_sum(row, steps), pair(total))

    def test_edges(self):
        for steps in (0, 1, 60):
            self.same(half_sum((), steps), (1, 1))
        self.same([half_sum((1,), 0), half_sum((20,), 0), half_sum((1, 1), 1), half_sum((3,), 1)], [(0, 1)] * 3 + [(1, 2)])

    def test_what_is_left_out(self):
        for row in ((1,), (2,), (2, 1), (1, 1, 1), (1, 2, 1, 2)):
            all_of_it = Fraction(*half_sum(row, 60))
            self.assertLess(all_of_it, 1)
            for steps in (0, 1, 5, 20):
                rest = all_of_it - Fraction(*half_sum(row, steps))
                self.assertTrue(0 <= rest <= Fraction(1, 2 ** steps))

    def test_wrong_arguments(self):
        for value in NO_ROWS:
            self.fails(InvalidRow, half_sum, value, 5)
            self.fails(InvalidRow, half_sum, value, None)
        for value in NO_INTEGERS + (-1, 61, LONG, LONGER, LONGEST):
            self.fails(InvalidNumber(value), half_sum, (21,), value)
            self.fails(InvalidNumber(value), half_sum, (), value)
        for row in ((21,), (1,) * 21, (40,), (1, 20)):
            self.fails(TooMany(20), half_sum, row, 0)
            self.fails(TooMany(20), half_sum, row, 60)


class Spans(Case):
    def test_values_by_halves(self):
        for row in FIRM[1:]:
            word = "".join("x" * (entry - 1) + "y" for entry in row)
            rows = {}
            for at in range(len(word) + 1):
                front = "".join("y" if letter == "x" else "x" for letter in word[:at][::-1])
                for part in (front, word[at:]):
                    self.assertTrue(part == "" or part[-1] == "y")
                    rows[part] = tuple(len(run) + 1 for run in part.split("y")[:-1])
            low = sum(Fraction(*half_sum(rows["".join("y" if letter == "x" else "x" for letter in word[:at][::-1])], 40))
                      * Fraction(*half_sum(rows[word[at:]], 40)) for at in range(len(word) + 1))
            left, right = ends(value_span(row, 11))
            self.assertTrue(left <= low + Fraction(20, 2 ** 40) and low <= right)

    def test_spans_are_narrow(self):
        for row in FIRM + HEAVY:
            for digits in (0, 1, 7, 40):
                span = value_span(row, digits)
                self.assertEqual([type(span), len(span)], [tuple, 2])
                low, high = ends(span)
                self.assertTrue(low <= high <= low + Fraction(1, 10 ** digits))
                self.assertEqual(span, (pair(low), pair(high)))
                self.assertTrue(all(abs(number) < 10 ** 400 for end in span for number in end))
                if row:
                    self.assertIs(is_within(Mix.of(row), span), True)
        self.same(value_span((), 0), ((1, 1), (1, 1)))
        self.same(value_span((), 40), ((1, 1), (1, 1)))

    def test_spans_have_the_known_values(self):
        for row, text in KNOWN.items():
            value = Fraction(int(text.replace(".", "")), 10 ** 40)
            for digits in (0, 5, 38):
                low, high = ends(value_span(row, digits))
                self.assertTrue(low <= value + Fraction(1, 10 ** 39) and value <= high)

    def test_wide_spans_hold_narrow_ones(self):
        for row in [row for weight in range(10) for row in firm_rows(weight)] + HEAVY:
            narrow = ends(value_span(row, 40))
            for digits in (0, 1, 2):
                wide = ends(value_span(row, digits))
                self.assertTrue(wide[0] <= narrow[0] and narrow[1] <= wide[1])

    def test_sixty_parts_of_rows(self):
        mix = mix_of({row: Fraction(99, 100) for row in list(firm_rows(16))[::80][:56] + HEAVY[:4]})
        self.assertEqual(len(mix), 60)
        for digits in (0, 1, 20, 40):
            low, high = ends(mix_span(mix, digits))
            self.assertTrue(low <= high <= low + Fraction(1, 10 ** digits))

    def test_spans_have_the_limits_of_cut_sums(self):
        for row in ((3, 1), (4, 1), (3, 2), (5, 1, 1), (3, 1, 2), (4, 2)):
            low, high = ends(value_span(row, 12))
            found = Fraction(*cut_sum(200, row))
            self.assertTrue(found < low and high < found + Fraction(1, 1000))

    def test_duals_and_products(self):
        for row in FIRM[1:] + HEAVY:
            self.same(value_text(row, 40), value_text(dual_row(row), 40))
        chance = random.Random(131)
        for _ in range(6):
            one, other = chance.choice(FIRM[1:]), chance.choice(FIRM[1:])
            left, right = ends(value_span(one, 40)), ends(value_span(other, 40))
            for way in (joined, woven):
                mix = way(Mix.of(one), Mix.of(other))
                if len(mix) <= 60:
                    low, high = ends(mix_span(mix, 38))
                    self.assertTrue(low <= left[1] * right[1] and left[0] * right[0] <= high)

    def test_what_follows_has_the_value_0(self):
        chance = random.Random(132)
        for weight in range(3, 9):
            for each in chance.sample(pairs_of(weight), min(6, len(pairs_of(weight)))):
                mix = relation(*each)
                low, high = ends(mix_span(mix, 40))
                self.assertTrue(low <= 0 <= high)
                self.assertIs(is_within(mix, ((-1, 10 ** 30), (1, 10 ** 30))), True)

    def test_spans_of_mixes(self):
        chance = random.Random(133)
        rows = FIRM + HEAVY
        for many in (1, 2, 4, 10):
            for digits in (0, 12, 40):
                mix = mix_of({row: Fraction(chance.choice((-7, -2, 1, 5)), chance.randint(1, 9))
                              for row in chance.sample(rows, many)})
                span = mix_span(mix, digits)
                low, high = ends(span)
                self.assertTrue(low <= high <= low + Fraction(1, 10 ** digits))
                self.assertTrue(all(abs(number) < 10 ** 400 for end in span for number in end))
                parts = [sorted(Fraction(*ratio) * end for end in ends(value_span(row, 40))) for row, ratio in mix]
                self.assertTrue(low <= sum(part[1] for part in parts) and sum(part[0] for part in parts) <= high)
        self.same(mix_span(ZERO, 40), ((0, 1), (0, 1)))

    def test_great_mixes(self):
        rows = [row for row in firm_rows(9)][:60]
        most = 10 ** 40 - 1
        mix = mix_of({row: Fraction(most if place % 2 else -most, 2 * place + 1) for place, row in enumerate(rows)})
        self.assertEqual(len(mix), 60)
        for digits in (0, 40):
            span = mix_span(mix, digits)
            low, high = ends(span)
            self.assertTrue(low <= high <= low + Fraction(1, 10 ** digits))
            self.assertTrue(all(abs(number) < 10 ** 400 for end in span for number in end))
            self.assertIs(is_within(mix, span), True)
            gap = Fraction(1, 10 ** 50)
            self.assertIs(is_within(mix, (pair(high + gap), pair(high + 1))), False)
            self.assertIs(is_within(mix, (pair(low - 1), pair(low - gap))), False)

    def test_wrong_arguments(self):
        for call in (value_span, value_text):
            for value in NO_ROWS:
                self.fails(InvalidRow, call, value, 5)
                self.fails(InvalidRow, call, value, None)
            for value in NO_DIGITS:
                self.fails(InvalidNumber(value), call, (1, 39), value)
            for row in NOT_FIRM:
                self.fails(InvalidOperation, call, row, 0)
            for row in ((21,), (2, 19), (40,), (2,) * 11):
                self.fails(TooMany(20), call, row, 0)

    def test_wrong_mixes(self):
        for value in NO_MIXES:
            self.fails(InvalidMix, mix_span, value, 5)
            self.fails(InvalidMix, mix_span, value, None)
            self.fails(InvalidMix, is_within, value, None)
        for value in NO_DIGITS:
            self.fails(InvalidNumber(value), mix_span, Mix.of((1, 39)), value)
            self.fails(InvalidNumber(value), mix_span, ZERO, value)
        longer, sixty = 10 ** 40, {row: 1 for row in list(firm_rows(9))[:60]}
        more = {row: 1 for row in list(firm_rows(9))[:61]}
        for mix, error in ((Mix({(1,): 1, (40,): (1, longer)}), InvalidOperation), (Mix({(21,): longer}), TooMany(20)),
                           (Mix({(2,): 1, (21,): 1}), TooMany(20)), (Mix({(2,): longer}), TooMany(40)),
                           (Mix({(2,): -longer}), TooMany(40)), (Mix({(3,): 1, (2,): (1, longer)}), TooMany(40)),
                           (Mix(more), TooMany(60)), (Mix({**more, (2,): longer}), TooMany(40))):
            self.fails(error, mix_span, mix, 0)
            self.fails(error, is_within, mix, None)
        self.assertIs(is_within(Mix({(2,): (longer - 1, 1)}), mix_span(Mix({(2,): (longer - 1, 1)}), 40)), True)
        self.assertIs(is_within(Mix(sixty), mix_span(Mix(sixty), 3)), True)


class Texts(Case):
    def test_known_values(self):
        for row, text in KNOWN.items():
            for digits in (1, 5, 30, 39):
                self.same(value_text(row, digits), text[:digits + 2])
            self.same(value_text(row, 0), text[0])
        self.same([value_text((), 0), value_text((), 1), value_text((), 40)], ["1", "1.0", "1." + "0" * 40])

    def test_texts_are_cut(self):
        for row in FIRM[1:] + HEAVY:
            for digits in (0, 1, 9, 40):
                text = value_text(row, digits)
                self.assertEqual(len(text), digits + (2 if digits else 1))
                cut = Fraction(int(text.replace(".", "")), 10 ** digits)
                low, high = ends(value_span(row, 40))
                self.assertTrue(cut <= high and low < cut + Fraction(1, 10 ** digits))
        self.same([value_text((2,) * 10, 5), value_text((2,) * 10, 12)], ["0.00000", "0.000000000171"])
        self.same(value_text((20,), 40), "1.0000009539620338727961131520386834493459")


class Within(Case):
    def test_ends_near_the_value(self):
        gap = Fraction(1, 10 ** 39)
        for row, text in KNOWN.items():
            low = Fraction(int(text.replace(".", "")), 10 ** 40)
            high = low + Fraction(1, 10 ** 40)
            mix = Mix.of(row)
            self.assertIs(is_within(mix, (pair(low), pair(high))), True)
            self.assertIs(is_within(mix, (pair(high + gap), pair(high + 2 * gap))), False)
            self.assertIs(is_within(mix, (pair(low - 2 * gap), pair(low - gap))), False)
            self.assertIs(is_within(mix, (pair(high), pair(low))), False)
            self.assertIs(is_within(mix * -3, (pair(-3 * high), pair(-3 * low))), True)
            self.assertIs(is_within(mix * -3, (pair(3 * low), pair(3 * high))), False)

    def test_ends_very_near_the_value(self):
        for row in ((2,), (3, 1), (2, 1, 2)):
            mix = Mix.of(row)
            low, high = ends(value_span(row, 40))
            while high - low > Fraction(1, 10 ** 58):
                # Halved by what is judged itself: the value lies in one half of a right span.
                middle = (low + high) / 2
                first, second = (is_within(mix, (pair(low), pair(middle))), is_within(mix, (pair(middle), pair(high))))
                self.assertTrue(first != second)
                low, high = (low, middle) if first else (middle, high)
            gap = Fraction(1, 10 ** 57)
            self.assertIs(is_within(mix, (pair(low - gap), pair(high + gap))), True)
            self.assertIs(is_within(mix, (pair(high + gap), pair(high + 1))), False)

    def test_mixes_of_the_empty_row_alone(self):
        for number in ((1, 1), (-2, 3), (LONG // 10 ** 20, 7)):
            mix, value = Mix({(): number}), Fraction(*number)
            gap = Fraction(1, 10 ** 60)
            for low, high, wanted in ((value, value, True), (value - gap, value, True), (value, value + gap, True),
                                      (value + gap, value + 1, False), (value - 1, value - gap, False)):
                self.assertIs(is_within(mix, (pair(low), pair(high))), wanted)
        self.same([is_within(ZERO, ((0, 1), (0, 1))), is_within(ZERO, ((1, LONGEST), (1, 1))), is_within(ZERO, ((-1, 1), (1, 1)))],
                  [True, False, True])

    def test_long_integers(self):
        low, high = ends(value_span((2,), 40))
        far = Fraction(LONGEST ** 5 + 1, LONGEST ** 4)
        self.assertIs(is_within(TWO, (pair(low - far), pair(high + far))), True)
        self.assertIs(is_within(TWO, (pair(low + far), pair(high + 2 * far))), False)
        tight = Fraction(3, 7 * LONGEST)
        self.assertIs(is_within(TWO, (pair(low - tight), pair(high + tight))), True)

    def test_other_values(self):
        right = ((8, 5), (17, 10))
        self.assertIs(is_within(TWO, right), True)
        wrong = [list(right), ([8, 5], (17, 10)), ((8, 5),), right + ((9, 5),), ((16, 10), (17, 10)), ((8, 5), (34, 20)),
                 (1, 2), ((1, True), (2, 1)), ((True, 1), (2, 1)), (8, 5), ((1, 1), 2), ((-8, -5), (17, 10)), (None, None),
                 ((8, 0), (17, 10)), "span", {(8, 5): (17, 10)}, ((17, 10), (8, 5)), ((1, 1), (2, 1), (3, 1)), TWO, ((1, 1), TWO)]
        self.each(lambda value: is_within(TWO, value), wrong + list(STRANGE), False)

    def test_what_is_not_true(self):
        self.assertTrue(value_text((2, 1), 3) > value_text((3, 1), 3) and value_text((4,), 3) > value_text((3, 1), 3))
        small = Mix({(20,): 1, (): -1})
        self.assertTrue(ends(mix_span(small, 10))[1] < Fraction(1, 10 ** 6) and ends(mix_span(small, 10))[0] > 0)
        self.assertNotEqual(half_sum((2,), 60), pair(sum(ends(value_span((2,), 15))) / 4))


class Whole(Case):
    def test_little_time(self):
        mix, start = Mix({(2, 1, 2, 1, 3): 1, (9,): (1, 3), (3, 1, 2, 1, 1, 1): (10 ** 39, 7), (2, 2, 2, 2, 1): -1}), perf_counter()
        for _ in range(10):
            half_sum((2, 1, 2, 1, 2), 60)
            value_span((2, 1, 2, 1, 3), 40)
            value_text((2, 1, 2, 1, 3), 40)
            mix_span(mix, 40)
        self.assertLess(perf_counter() - start, 1)

    def test_the_functions_stand_in_the_module_itself(self):
        for name in ("half_sum", "value_span", "mix_span", "value_text", "is_within"):
            self.assertEqual(getattr(values, name).__module__, "risewords.value.values")
