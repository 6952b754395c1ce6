"""[13.1] to [13.7] and the functions of risewords.follow.families."""

from itertools import product

from oracles import mix_of
from risewords.errors import InvalidNumber, InvalidOperation, InvalidRow, TooMany
from risewords.follow import families
from risewords.follow.families import derived_mix, dual_mix, raised_mix, raisings, round_mix, sum_mix
from risewords.follow.relations import does_follow, relation
from risewords.word.mixes import Mix
from risewords.word.rows import dual_row, firm_rows, row_of, rows_of, word_of
from support import LONG, LONGER, LONGEST, NO_INTEGERS, NO_ROWS, Case

FIRM = [row for weight in range(2, 9) for row in firm_rows(weight)]
ROWS = [row for weight in range(1, 8) for row in rows_of(weight)]


def counted(rows, others=()):
    """The mix of some rows less some others, each as often as it stands."""
    numbers = {}
    for row in rows:
        numbers[row] = numbers.get(row, 0) + 1
    for row in others:
        numbers[row] = numbers.get(row, 0) - 1
    return mix_of(numbers)


def raised_by_rule(row, many):
    return sorted(tuple(entry + more for entry, more in zip(row, added))
                  for added in product(range(many + 1), repeat=len(row)) if sum(added) == many)


def derived_by_rule(row, many):
    word, plus, less = word_of(row), [], []
    for place, letter in enumerate(word):
        for letters in product("xy", repeat=many - 1):
            made = row_of(word[:place] + "x" + "".join(letters) + "y" + word[place + 1:])
            (plus if letter == "x" else less).append(made)
    return counted(plus, less)


def round_by_rule(row):
    plus, less = [], []
    for place in range(len(row)):
        turn = row[place:] + row[:place]
        plus += [(turn[0] - i, *turn[1:], i + 1) for i in range(turn[0] - 1)]
        less.append((turn[0] + 1, *turn[1:]))
    return counted(plus, less)


class Family(Case):
    def follows(self, mix):
        """[13.1] of a mix."""
        self.assertTrue(mix.is_firm_mix and mix.is_level)
        if not mix or mix.top_weight <= 8:
            self.assertIs(does_follow(mix), True)


class Sums(Family):
    def test_constants(self):
        self.same(families.MAX_FAMILY, 12)

    def test_sums_by_their_rule(self):
        for weight in range(2, 13):
            for length in range(1, weight):
                rows = [row for row in firm_rows(weight) if len(row) == length]
                self.same(sum_mix(weight, length).terms, counted(rows, [(weight,)]).terms)
                if weight <= 8:
                    self.follows(sum_mix(weight, length))
        self.same([sum_mix(2, 1).terms, sum_mix(12, 1).terms], [{}, {}])
        self.same(sum_mix(12, 11).terms, {(2,) + (1,) * 10: (1, 1), (12,): (-1, 1)})

    def test_wrong_arguments(self):
        for value in NO_INTEGERS + (1, 0, -1, 13, LONG, LONGER, LONGEST):
            self.fails(InvalidNumber(value), sum_mix, value, 1)
            self.fails(InvalidNumber(value), sum_mix, value, 0)
        for weight in (2, 5, 12):
            for value in NO_INTEGERS + (0, -1, weight, weight + 1, LONG, LONGER):
                self.fails(InvalidNumber(value), sum_mix, weight, value)


class Duals(Family):
    def test_duals_by_their_rule(self):
        for row in FIRM + [(12,), (2,) * 6, (2, 1, 3, 1, 4, 1)]:
            found = dual_mix(row)
            self.same(found.terms, counted([row], [dual_row(row)]).terms)
            self.same((-found).terms, dual_mix(dual_row(row)).terms)
        for row in FIRM:
            if sum(row) < 8:
                self.follows(dual_mix(row))
        for row in [(8,), (6, 2), (2, 1, 5), (3, 1, 2, 2)]:
            self.follows(dual_mix(row))
        self.same([dual_mix((2, 2)).terms, dual_mix((2,)).terms], [{}, {}])

    def test_heavy_rows(self):
        for row in ((13,), (2,) * 7, (40,), (2, 1, 37)):
            self.fails(TooMany(12), dual_mix, row)


class Raised(Family):
    def test_raisings_by_their_rule(self):
        for row in ROWS:
            for many in range(6):
                if len(row) < 6 and sum(row) + many <= 12:
                    self.same(raisings(row, many), tuple(raised_by_rule(row, many)))
        for row in ROWS + [(12,), (1,) * 12]:
            self.same(raisings(row, 0), (row,))
        self.same([len(raisings((1,) * 6, 6)), raisings((1,), 11)], [462, ((12,),)])

    def test_raised_mixes_by_their_rule(self):
        for row in FIRM:
            for many in range(5):
                if sum(row) + many <= 10:
                    found = raised_mix(row, many)
                    self.same(found.terms, counted(raised_by_rule(row, many), raised_by_rule(dual_row(row), many)).terms)
                    if sum(row) + many < 8:
                        self.follows(found)
            self.same(raised_mix(row, 0).terms, dual_mix(row).terms)
        for row, many in (((2, 1, 1), 4), ((3, 2), 3), ((2, 2, 1), 3), ((4, 1), 3), ((3, 1, 1, 2), 1)):
            self.follows(raised_mix(row, many))

    def test_raised_rows_and_sums(self):
        for size in range(1, 11):
            row = (2,) + (1,) * (size - 1)
            for many in range(11 - size):
                self.same(raised_mix(row, many).terms, sum_mix(size + 1 + many, size).terms)

    def test_heavy_rows(self):
        self.same(raised_mix((2,), 10).terms, {})
        self.same(len(raised_mix((2, 1), 9)), 11)
        for row, many in (((2,), 11), ((12,), 1), ((13,), 0), ((2, 1), 10), ((40,), 11)):
            self.fails(TooMany(12), raised_mix, row, many)
            self.fails(TooMany(12), raisings, row, many)
        for row, many in (((1, 1), 11), ((1,) * 13, 0), ((1, 39), 0)):
            self.fails(TooMany(12), raisings, row, many)
        self.same(raisings((1, 11), 0), ((1, 11),))

    def test_what_is_not_true(self):
        self.assertIs(does_follow(Mix({(3, 2): 1, (2, 3): -1})), False)


class Derived(Family):
    def test_derived_mixes_by_their_rule(self):
        for row in FIRM:
            for many in range(1, 6):
                if sum(row) + many <= 10:
                    found = derived_mix(row, many)
                    self.same(found.terms, derived_by_rule(row, many).terms)
                    if sum(row) + many < 8:
                        self.follows(found)
        for row, many in (((2,), 6), ((3,), 5), ((2, 1), 5), ((3, 1), 4), ((2, 1, 2), 3), ((4, 2), 2), ((2, 1, 1, 3), 1)):
            self.follows(derived_mix(row, many))

    def test_derived_by_1(self):
        for row in FIRM + [(11,), (2, 1, 3, 1, 4), (2,) + (1,) * 9]:
            self.same(derived_mix(row, 1).terms, (relation((1,), row) * -1).terms)

    def test_heavy_rows(self):
        self.same(derived_mix((2,), 10).terms, derived_by_rule((2,), 10).terms)
        for row, many in (((2,), 11), ((4, 4), 5), ((12,), 1), ((40,), 11), ((11,), 2)):
            self.fails(TooMany(12), derived_mix, row, many)


class Round(Family):
    def test_round_mixes_by_their_rule(self):
        for row in ROWS:
            if max(row) > 1:
                found = round_mix(row)
                self.same(found.terms, round_by_rule(row).terms)
                if sum(row) < 7:
                    self.follows(found)
        for row in ((7,), (1, 6), (1, 1, 5), (2, 1, 4), (3, 1, 3), (1, 2, 1, 2, 1), (2, 2, 3)):
            self.follows(round_mix(row))

    def test_turns_have_one_mix(self):
        for row in ROWS:
            if max(row) > 1:
                self.same(round_mix(row[1:] + row[:1]).terms, round_mix(row).terms)

    def test_heavy_rows(self):
        for row in ((11,), (1, 10), (1,) * 9 + (2,), (2, 3, 2, 3, 1)):
            self.same(round_mix(row).terms, round_by_rule(row).terms)
        for row in ((12,), (1, 11), (40,), (2,) * 6, (1,) * 10 + (2,)):
            self.fails(TooMany(12), round_mix, row)
        for row in ((), (1,), (1, 1), (1,) * 12, (1,) * 40):
            self.fails(InvalidOperation, round_mix, row)


class Wrong(Case):
    def test_no_rows(self):
        for value in NO_ROWS:
            self.fails(InvalidRow, dual_mix, value)
            self.fails(InvalidRow, round_mix, value)
            for call in (raisings, raised_mix, derived_mix):
                self.fails(InvalidRow, call, value, 1)
                self.fails(InvalidRow, call, value, None)

    def test_no_numbers(self):
        for row in ((2,), (), (1,), (40,)):
            for value in NO_INTEGERS + (-1, 12, LONG, LONGER, LONGEST):
                for call in (raisings, raised_mix, derived_mix):
                    self.fails(InvalidNumber(value), call, row, value)
            self.fails(InvalidNumber(0), derived_mix, row, 0)

    def test_rows_that_are_not_firm(self):
        for row in ((), (1,), (1, 2), (1, 39), (1,) * 40):
            self.fails(InvalidOperation, dual_mix, row)
            for many in (1, 11):
                self.fails(InvalidOperation, raised_mix, row, many)
                self.fails(InvalidOperation, derived_mix, row, many)
            self.fails(InvalidOperation, raised_mix, row, 0)
        for many in (0, 11):
            self.fails(InvalidOperation, raisings, (), many)

    def test_the_functions_stand_in_the_module_itself(self):
        for name in ("sum_mix", "dual_mix", "raisings", "raised_mix", "derived_mix", "round_mix"):
            self.assertEqual(getattr(families, name).__module__, "risewords.follow.families")
