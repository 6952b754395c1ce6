"""[17.1] to [17.7], the class Letters and the functions of risewords.side.letters."""

import operator
import random
from fractions import Fraction
from itertools import combinations, product as lists_of
from math import gcd
from time import perf_counter

from oracles import pair, rank_of, solved
from risewords.errors import InvalidLetters, InvalidNumber, TooMany
from risewords.follow.relations import pairs_of, relation
from risewords.side import letters
from risewords.side.letters import (Letters, acted, barring_basis, bars_joined, bracket, is_barring, is_lie,
                                    lyndon_bracket, told_bracket)
from risewords.weave.products import joined
from risewords.word.mixes import Mix
from risewords.word.rows import firm_rows, row_of, rows_of, word_of
from support import LONG, LONGER, LONGEST, NO_INTEGERS, STRANGE, Case
from test_mixes import NO_PAIRS

X, Y, ZERO, EMPTY = Letters.of("x"), Letters.of("y"), Letters({}), Letters.of("")
NO_LETTERS = STRANGE + ((), "x", "xy", 0, 1, (1, 2), {"x": (1, 1)}, Mix.of((2,)), Letters)
NO_WORDS = STRANGE[:3] + ("a", "X", "xyz", "x y", " ", "\n", "x" * 11, "y" * 3000, 1, (), ("x",), ["x", "y"], {"x": 1}, X)
HEAVY = Letters({"x" * 10: (1, 2), "xy" * 5: (-1, 3)})


def words_of(length):
    return ["".join(letters) for letters in lists_of("xy", repeat=length)]


def letters_of(numbers):
    """The letters of a dict from words to numbers; those of 0 are left out."""
    return Letters({word: pair(numbers[word]) for word in numbers if numbers[word]})


def numbers_of(one):
    return {word: Fraction(*ratio) for word, ratio in one.terms.items()}


def drawn(chance, weight, many=4):
    words = words_of(weight)
    return letters_of({word: Fraction(chance.choice((-3, -1, 1, 2)), chance.randint(1, 4))
                       for word in chance.sample(words, min(many, len(words)))})


def by_words(one, other, rule):
    """The sum over all pairs of words of what a rule makes of them, times both numbers."""
    total = {}
    for left, number in numbers_of(one).items():
        for right, factor in numbers_of(other).items():
            for word, count in rule(left, right).items():
                total[word] = total.get(word, 0) + number * factor * count
    return letters_of(total)


def act_on(filling, word):
    """What acting with a word makes of another one."""
    total = {}
    for place, letter in enumerate(word):
        if letter == "y":
            for made, count in (("y" + filling, 1), (filling + "y", -1)):
                whole = word[:place] + made + word[place + 1:]
                total[whole] = total.get(whole, 0) + count
    return total


def weavings(one, other):
    """All ways to weave two words, as a list."""
    size = len(one) + len(other)
    found = []
    for places in combinations(range(size), len(one)):
        left, right = list(one), list(other)
        found.append("".join(left.pop(0) if place in places else right.pop(0) for place in range(size)))
    return found


def lie_by_rule(one):
    """[17.2] of letters of a weight from 1 on."""
    numbers, weight = numbers_of(one), one.weight
    for size in range(1, weight // 2 + 1):
        for left in words_of(size):
            for right in words_of(weight - size):
                if sum(numbers.get(word, 0) for word in weavings(left, right)):
                    return False
    return True


def row_number(one, row):
    """[17.4]"""
    number = Fraction(*one.number_of(word_of(row)))
    weight = sum(row)
    if weight > 1 and row == (1,) * weight:
        number += Fraction((-1) ** (weight - 1), weight) * Fraction(*one.number_of(word_of((weight,))))
    return number


def bars_by_rule(one):
    weight = one.weight
    for light in range(1, weight // 2 + 1):
        for row in rows_of(light):
            for other in rows_of(weight - light):
                mix = joined(Mix.of(row), Mix.of(other))
                if sum(Fraction(*ratio) * row_number(one, made) for made, ratio in mix):
                    return False
    return True


def lyndon_words(weight):
    return [word for word in words_of(weight) if word and all(word < word[place:] for place in range(1, weight))]


def bracketed(word):
    """[17.3]"""
    if len(word) == 1:
        return Letters.of(word)
    place = next(at for at in range(1, len(word)) if word[at:] in lyndon_words(len(word) - at))
    left, right = bracketed(word[:place]), bracketed(word[place:])
    return left * right - right * left


def drawn_lie(chance, weight):
    total = ZERO
    for word in lyndon_words(weight):
        total = total + lyndon_bracket(word) * pair(Fraction(chance.randint(-3, 3), chance.randint(1, 3)))
    return total


class Made(Case):
    def test_constants(self):
        self.same([letters.MAX_LETTERS, letters.MOST_BARRING], [10, 8])

    def test_terms(self):
        terms = {"yx": (1, 2), "xx": (LONGER - 1, LONG), "xy": (-1, 1)}
        one = Letters(terms)
        self.same(one.terms, {"xx": (LONGER - 1, LONG), "xy": (-1, 1), "yx": (1, 2)})
        self.same([one.weight, one.is_zero, len(one), str(one)], [2, False, 3, "letters of weight 2 with 3 words"])
        self.same([ZERO.terms, ZERO.weight, ZERO.is_zero, len(ZERO), str(ZERO)], [{}, None, True, 0, "zero letters"])
        self.same([EMPTY.terms, EMPTY.weight, EMPTY.is_zero, len(EMPTY)], [{"": (1, 1)}, 0, False, 1])
        self.same([HEAVY.weight, str(HEAVY)], [10, "letters of weight 10 with 2 words"])
        every = Letters({word: (1, 3) for word in words_of(10)})
        self.same([len(every), every.weight], [1024, 10])

    def test_nothing_is_shared(self):
        terms = {"xy": (1, 1)}
        one = Letters(terms)
        terms["yy"] = (1, 2)
        one.terms["xx"] = (1, 3)
        self.same(one.terms, {"xy": (1, 1)})

    def test_words_as_letters(self):
        for word in ("", "x", "y", "xyyx", "y" * 10):
            self.same(Letters.of(word).terms, {word: (1, 1)})
        for value in NO_WORDS:
            self.fails(InvalidLetters, Letters.of, value)
            self.fails(InvalidLetters, X.number_of, value)

    def test_numbers_of_words(self):
        one = Letters({"xy": (1, 2), "yy": (-3, 1)})
        self.same([one.number_of(word) for word in ("xy", "yy", "yx", "", "x", "x" * 10)],
                  [(1, 2), (-3, 1)] + [(0, 1)] * 4)
        self.same(ZERO.number_of(""), (0, 1))

    def test_what_tells_no_letters(self):
        wrong = [{"x": 1}, {"x": (0, 1)}, {"x": (2, 2)}, {"x": (1, True)}, {"x": (True, 1)}, {"x": [1, 1]}, {"x": None},
                 {"x": (LONGER, 1)}, {"x": (1, LONGER)}, {"x": (1, 0)}, {"x": (1, -1)}, {"x": (1, 1), "xy": (1, 1)},
                 {"": (1, 1), "y": (1, 1)}, {"a": (1, 1)}, {"X": (1, 1)}, {"x" * 11: (1, 1)}, {1: (1, 1)}, {None: (1, 1)},
                 {("x",): (1, 1)}, {"xy": (1, 1), "y ": (1, 1)}, {"x": (1, 1, 1)}, {"xy": (1, 1), "yx": 0}, [("x", (1, 1))],
                 (("x", (1, 1)),), "x", X, {"x": X}, (), 0]
        for value in wrong + [value for value in STRANGE if value != {}]:
            self.fails(InvalidLetters, Letters, value)

    def test_equality(self):
        one, other = Letters({"xy": (1, 1), "yx": (-1, 2)}), Letters({"yx": (-1, 2), "xy": (1, 1)})
        self.assertTrue(one == other and not one != other and not one == X and one != X and ZERO == X - X)
        for value in NO_LETTERS + (one.terms, EMPTY):
            self.assertTrue(not one == value and one != value and not value == one)
            self.assertFalse(one in [value])
        self.assertFalse(ZERO == EMPTY)

    def test_no_iteration(self):
        for call in (iter, list, tuple, lambda value: "x" in value, lambda value: value["x"]):
            self.fails(TypeError, call, X)


class Signs(Case):
    def test_sums(self):
        chance = random.Random(111)
        for _ in range(20):
            weight = chance.randint(0, 6)
            one, other = drawn(chance, weight), drawn(chance, weight)
            left, right = numbers_of(one), numbers_of(other)
            for sign, found in ((1, one + other), (-1, one - other)):
                wanted = {word: left.get(word, 0) + sign * right.get(word, 0) for word in words_of(weight)}
                self.same(found.terms, letters_of(wanted).terms)
            self.same((-one).terms, letters_of({word: -number for word, number in left.items()}).terms)
            self.same([one + ZERO == one, ZERO + one == one, one - ZERO == one, ZERO - one == -one], [True] * 4)
        self.same((X - X).terms, {})

    def test_sums_of_unlike_weights(self):
        for one, other in ((X, X * Y), (EMPTY, X), (HEAVY, X)):
            for call in (operator.add, operator.sub):
                self.fails(InvalidLetters, call, one, other)
                self.fails(InvalidLetters, call, other, one)

    def test_products(self):
        chance = random.Random(112)
        for _ in range(20):
            one, other = drawn(chance, chance.randint(0, 5)), drawn(chance, chance.randint(0, 5))
            self.same((one * other).terms, by_words(one, other, lambda left, right: {left + right: 1}).terms)
        self.same([(ZERO * HEAVY).terms, (HEAVY * ZERO).terms, (ZERO * ZERO).terms], [{}] * 3)
        self.same((EMPTY * HEAVY).terms, HEAVY.terms)
        for one, other in ((HEAVY, X), (X, HEAVY), (Letters.of("x" * 6), Letters.of("y" * 5)), (HEAVY, HEAVY)):
            self.fails(TooMany(10), operator.mul, one, other)

    def test_multiples(self):
        one = Letters({"xy": (1, 2), "yx": (-2, 3)})
        for number in (1, -3, 0, (1, 2), (-4, 3), (0, 1), LONGER - 1, (LONG, LONGER - 1)):
            factor = Fraction(*number) if isinstance(number, tuple) else number
            wanted = {word: pair(entry * factor) for word, entry in numbers_of(one).items() if factor}
            self.same((one * number).terms, wanted)
        for number in (LONGER, -LONGER, LONGEST) + NO_PAIRS:
            self.fails(InvalidNumber(number), operator.mul, one, number)
            self.fails(InvalidNumber(number), operator.mul, ZERO, number)

    def test_long_results(self):
        one = X * (LONGER - 1) * (LONGER - 1)
        self.same(one.terms, {"x": ((LONGER - 1) ** 2, 1)})
        self.same((one * one).terms, {"xx": ((LONGER - 1) ** 4, 1)})
        self.assertIs(is_lie(one), True)

    def test_other_operands(self):
        for value in (None, True, False, "x", [1], {"x": (1, 1)}, Mix.of((2,))):
            for call in (operator.add, operator.sub, operator.mul):
                self.fails(TypeError, call, X, value)
                self.fails(TypeError, call, value, X)
        for call in (operator.add, operator.sub):
            for value in (1, (1, 2)):
                self.fails(TypeError, call, X, value)
        for call in (operator.lt, operator.ge, operator.truediv, operator.floordiv, operator.mod, operator.pow, operator.and_):
            self.fails(TypeError, call, X, X)


class Brackets(Case):
    def test_brackets(self):
        chance = random.Random(113)
        for _ in range(15):
            one, other = drawn(chance, chance.randint(0, 5)), drawn(chance, chance.randint(0, 5))
            wanted = by_words(one, other, lambda left, right: {left + right: 1}) - by_words(
                other, one, lambda left, right: {left + right: 1})
            self.same(bracket(one, other).terms, wanted.terms)
            self.same((-bracket(other, one)).terms, wanted.terms)

    def test_acting(self):
        chance = random.Random(114)
        for _ in range(15):
            one, other = drawn(chance, chance.randint(0, 5)), drawn(chance, chance.randint(0, 5))
            self.same(acted(one, other).terms, by_words(one, other, act_on).terms)
            wanted = acted(one, other) - acted(other, one) + bracket(one, other)
            self.same(told_bracket(one, other).terms, wanted.terms)
            self.same(told_bracket(one, other).terms, (-told_bracket(other, one)).terms)
        self.same(acted(X, Y * X).terms, {"xyx": (-1, 1), "yxx": (1, 1)})

    def test_three_brackets_add_up_to_0(self):
        chance = random.Random(115)
        for _ in range(8):
            f, g, h = (drawn(chance, chance.randint(1, 3), 3) for _ in range(3))
            for call in (bracket, told_bracket):
                self.same((call(call(f, g), h) + call(call(g, h), f) + call(call(h, f), g)).terms, {})

    def test_zero_letters_and_long_words(self):
        for call in (bracket, acted, told_bracket):
            self.same([call(ZERO, HEAVY).terms, call(HEAVY, ZERO).terms, call(ZERO, ZERO).terms], [{}] * 3)
            for one, other in ((HEAVY, X), (Y, HEAVY), (Letters.of("xy" * 3), Letters.of("xxyxy"))):
                self.fails(TooMany(10), call, one, other)
            self.same(call(HEAVY, EMPTY).is_zero, True)
            for value in NO_LETTERS:
                self.fails(InvalidLetters, call, value, HEAVY)
                self.fails(InvalidLetters, call, HEAVY, value)
        self.assertEqual(acted(Letters.of("xxxxx"), Letters.of("xxyxy")).weight, 10)

    def test_lyndon_brackets(self):
        for weight in range(1, 8):
            for word in lyndon_words(weight):
                self.same(lyndon_bracket(word).terms, bracketed(word).terms)
                self.assertIs(is_lie(lyndon_bracket(word)), True)
        for word in ("xxyxyyxyyy", "xxxxxxxxxy", "xyyyyyyyyy"):
            self.same(lyndon_bracket(word).terms, bracketed(word).terms)
        for value in NO_WORDS + ("", "xx", "yx", "xyxy", "yy", "yxx", "x" * 10 + "y", "xyx"):
            self.fails(InvalidLetters, lyndon_bracket, value)

    def test_lyndon_brackets_make_all_lie_letters(self):
        for weight in range(1, 7):
            words = words_of(weight)
            rows = [[lyndon_bracket(word).number_of(each)[0] for each in words] for word in lyndon_words(weight)]
            self.same(rank_of(rows), len(rows))
            # As many as the words for which weaving asks for nothing more.
            asked = []
            for size in range(1, weight // 2 + 1):
                for left in words_of(size):
                    for right in words_of(weight - size):
                        made = weavings(left, right)
                        asked.append([made.count(word) for word in words])
            self.same(len(words) - rank_of(asked), len(rows))


class Lie(Case):
    def test_lie_letters_and_others(self):
        chance = random.Random(116)
        for weight in range(1, 8):
            one = drawn_lie(chance, weight)
            self.assertIs(is_lie(one), True)
            near = one + Letters({chance.choice(words_of(weight)): (1, 5)})
            for other in (drawn(chance, weight, 2), near, one * (2, 3)):
                if not other.is_zero:
                    self.assertIs(is_lie(other), lie_by_rule(other))

    def test_all_small_letters(self):
        for weight in (1, 2, 3):
            words = words_of(weight)
            for code in lists_of((-1, 0, 2), repeat=len(words)) if weight < 3 else lists_of((-1, 0, 2), repeat=8):
                if any(code) and (weight < 3 or sum(map(bool, code)) < 4):
                    one = letters_of(dict(zip(words, map(Fraction, code))))
                    self.assertIs(is_lie(one), lie_by_rule(one))

    def test_heavy_letters(self):
        for weight in (9, 10):
            one = lyndon_bracket("x" * (weight - 2) + "yy")
            self.assertIs(is_lie(one), True)
            self.assertIs(is_lie(one + Letters.of("xy" + "y" * (weight - 2))), False)
        self.assertIs(is_lie(HEAVY), False)

    def test_edges_and_other_values(self):
        self.same([is_lie(X), is_lie(Y), is_lie(X + Y * 3), is_lie(ZERO), is_lie(EMPTY), is_lie(EMPTY * (1, 2))],
                  [True, True, True, True, False, False])
        self.each(is_lie, NO_LETTERS, False)
        self.each(is_barring, NO_LETTERS, False)


class Bars(Case):
    def test_letters_that_bar_and_others(self):
        chance = random.Random(117)
        for weight in range(1, 7):
            for one in (drawn(chance, weight, 3), drawn_lie(chance, weight), drawn(chance, weight, 40)):
                if not one.is_zero:
                    self.assertIs(bars_joined(one), bars_by_rule(one))
        for weight in (2, 3, 4):
            rows = list(rows_of(weight))
            asked = []
            for light in range(1, weight // 2 + 1):
                for row in rows_of(light):
                    for other in rows_of(weight - light):
                        mix = joined(Mix.of(row), Mix.of(other))
                        asked.append([mix.number_at(each)[0] for each in rows])
            left, leads = solved(asked)
            for free in [place for place in range(len(rows)) if place not in leads]:
                # The row numbers of a row of the kernel, and the numbers of words that have these.
                numbers = {rows[free]: Fraction(1)}
                numbers.update({rows[lead]: -row[free] for row, lead in zip(left, leads)})
                ones = (1,) * weight
                numbers[ones] = numbers.get(ones, 0) - Fraction((-1) ** (weight - 1), weight) * numbers.get((weight,), 0)
                one = letters_of({word_of(row): number for row, number in numbers.items()})
                self.assertIs(bars_joined(one), True)
                self.assertIs(bars_joined(one + Letters.of("y" * weight)), False)
                self.assertIs(bars_joined(one + Letters.of("x" * weight)), True)

    def test_edges(self):
        self.same([bars_joined(ZERO), bars_joined(EMPTY), bars_joined(X), bars_joined(Y), bars_joined(X * X)], [True] * 5)
        self.same([bars_joined(Y * Y), bars_joined(X * Y - Y * X), bars_joined(Letters({"xy": (1, 1), "yy": (1, 2)}))],
                  [False, True, False])
        for one in (Letters.of("x" * 9), HEAVY):
            self.fails(TooMany(8), bars_joined, one)
        self.assertIs(bars_joined(Letters.of("x" * 8)), True)
        self.assertIs(bars_joined(Letters.of("y" * 8)), False)
        for value in NO_LETTERS:
            self.fails(InvalidLetters, bars_joined, value)

    def test_barring_letters(self):
        self.same([is_barring(ZERO), is_barring(EMPTY), is_barring(X), is_barring(Y), is_barring(bracket(X, Y))],
                  [True, False, False, False, False])
        three = barring_basis(3)[0]
        self.same([is_barring(three), is_barring(three * (-2, 7)), is_barring(three + lyndon_bracket("xxy"))],
                  [True, True, False])
        self.assertIs(is_barring(Letters.of("x" * 3)), False)
        for weight in (9, 10):
            self.assertIs(is_barring(lyndon_bracket("x" * (weight - 1) + "y")), False)
        self.assertIs(is_barring(Letters({"xxy": (1, 1)})), False)

    def test_bases(self):
        self.same([len(barring_basis(weight)) for weight in range(3, 9)], [1, 0, 1, 0, 1, 1])
        for weight in range(3, 9):
            found = barring_basis(weight)
            self.assertIs(type(found), tuple)
            firsts = [list(one.terms)[0] for one in found]
            self.assertEqual(firsts, sorted(firsts))
            for one in found:
                self.same([one.weight, is_lie(one), bars_joined(one), is_barring(one)], [weight, True, True, True])
                ratios = list(one.terms.values())
                self.assertTrue(all(bottom == 1 for _, bottom in ratios) and ratios[0][0] > 0)
                self.assertEqual(gcd(*[top for top, _ in ratios]), 1)
            if found and weight < 8:
                self.assertTrue(lie_by_rule(found[0]) and bars_by_rule(found[0]))
        for value in NO_INTEGERS + (2, 9, 0, -3, LONG, LONGER, LONGEST):
            self.fails(InvalidNumber(value), barring_basis, value)

    def test_there_are_no_others(self):
        for weight in (3, 4, 5, 6):
            lots = [lyndon_bracket(word) for word in lyndon_words(weight)]
            asked = []
            for light in range(1, weight // 2 + 1):
                for row in rows_of(light):
                    for other in rows_of(weight - light):
                        mix = joined(Mix.of(row), Mix.of(other))
                        asked.append([sum(Fraction(*ratio) * row_number(one, made) for made, ratio in mix) for one in lots])
            self.same(len(lots) - rank_of(asked), len(barring_basis(weight)))

    def test_they_bar_all_relations(self):
        for weight in range(3, 9):
            for one in barring_basis(weight):
                numbers = {row: row_number(one, row) for row in firm_rows(weight)}
                self.assertTrue(any(numbers.values()))
                for each in pairs_of(weight):
                    self.same(sum(Fraction(*ratio) * numbers[row] for row, ratio in relation(*each)), Fraction(0))

    def test_told_brackets_of_barring_letters(self):
        three, five = barring_basis(3)[0], barring_basis(5)[0]
        found = told_bracket(three, five)
        self.same([found.weight, is_barring(found), found.is_zero], [8, True, False])
        eight = barring_basis(8)[0]
        first = list(eight.terms)[0]
        self.assertTrue(found * eight.number_of(first) == eight * found.number_of(first))
        self.same(told_bracket(three, three).is_zero, True)

    def test_what_is_not_true(self):
        one, three = bracket(X, Y), barring_basis(3)[0]
        self.same([is_lie(one), bars_joined(one)], [True, True])
        found = told_bracket(one, three)
        self.same([is_lie(found), bars_joined(found), bars_joined(three)], [True, False, True])


class Whole(Case):
    def test_little_time(self):
        one, start = drawn_lie(random.Random(118), 6), perf_counter()
        for _ in range(10):
            is_lie(one)
        for _ in range(3):
            barring_basis(7)
        barring_basis(8)
        barring_basis(8)
        self.assertLess(perf_counter() - start, 1)

    def test_rows_and_words(self):
        for weight in range(5):
            for row in rows_of(weight):
                self.same(row_of(word_of(row)), row)

    def test_what_stands_in_the_module_itself(self):
        for name in ("bracket", "acted", "told_bracket", "lyndon_bracket", "is_lie", "is_barring", "bars_joined",
                     "barring_basis", "Letters"):
            self.assertEqual(getattr(letters, name).__module__, "risewords.side.letters")
        for name in ("of", "number_of", "terms", "weight", "is_zero", "__add__", "__sub__", "__neg__", "__mul__", "__eq__",
                     "__len__", "__str__"):
            self.assertIn(name, vars(Letters))
