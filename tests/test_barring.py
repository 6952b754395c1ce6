"""The eliminations behind [12.3] to [12.7]: all integers that come up in them have room."""

import random
from fractions import Fraction

from oracles import cleared, rank_of, solved
from risewords.follow.barring import BITS, barring_rows, is_made, making_shares, rank_of as told_rank
from risewords.follow.relations import KINDS, pairs_of
from risewords.word.rows import dual_row, firm_rows
from support import Case
from test_relations import by_products


def relation_rows(weight, kind, shared):
    """The relations of all pairs, lists of integers; if asked for, a row and its dual have one column."""
    columns = {}
    for row in firm_rows(weight):
        columns[row] = columns.get(dual_row(row) if shared else row, len(set(columns.values())))
    found = []
    for each in pairs_of(weight, kind=kind):
        numbers = [0] * len(set(columns.values()))
        for row, ratio in by_products(*each):
            numbers[columns[row]] += ratio[0]
        found.append(numbers)
    return found


def greatest_in(rows, low):
    """The greatest integer in an elimination without fractions, from the last column down to one."""
    left, former, greatest = [list(row) for row in rows], 1, 0
    for column in range(len(left[0]) - 1, low - 1, -1):
        greatest = max([greatest] + [abs(entry) for row in left for entry in row])
        heads = [row for row in left if row[column]]
        if heads:
            pivot = min(heads, key=lambda row: abs(row[column]))
            left.remove(pivot)
            lead = pivot[column]
            left = [[(lead * entry - row[column] * taken) // former for entry, taken in zip(row, pivot)] for row in left]
            former = lead
    return greatest


def as_row(numbers):
    return {place: number for place, number in enumerate(numbers) if number}


class Room(Case):
    def test_integers_have_room(self):
        for kind in KINDS:
            for weight in range(4, 9):
                rows = relation_rows(weight, kind, kind == "all")
                self.assertLess(greatest_in(rows, 0), 2 ** 72)
                rows = relation_rows(weight, kind, False)
                light = [row for row, each in zip(rows, pairs_of(weight, kind=kind)) if kind == "firm" or sum(each[0]) < 4]
                marks = [[int(at == place) for at in range(len(light))] for place in range(len(light))]
                self.assertLess(greatest_in([mark + row for mark, row in zip(marks, light)], len(light)), 2 ** 72)
        self.assertGreater(BITS, 72 + 1)


class Rows(Case):
    def drawn(self, chance, many, width):
        rows = [[chance.randint(-4, 4) for _ in range(width)] for _ in range(many)]
        # Some of them hang on others.
        return rows + [[2 * one - 3 * other for one, other in zip(rows[0], rows[-1])]]

    def test_sums_of_rows(self):
        chance = random.Random(171)
        for _ in range(40):
            width = chance.randint(1, 9)
            rows = self.drawn(chance, chance.randint(1, 7), width)
            makers = [as_row(row) for row in rows]
            times = [chance.randint(-5, 5) for _ in rows]
            made = [sum(number * row[at] for number, row in zip(times, rows)) for at in range(width)]
            for numbers in (made, [chance.randint(-9, 9) for _ in range(width)], [10 ** 200 * entry for entry in made]):
                fine = not any(cleared(numbers, solved(rows)))
                self.assertIs(is_made(as_row(numbers), makers, width), fine)
                shares = making_shares(as_row(numbers), makers, width)
                self.assertIs(shares is not None, fine)
                if fine:
                    self.same(len(shares), len(rows))
                    self.assertEqual([sum(Fraction(*share) * row[at] for share, row in zip(shares, rows)) for at in range(width)],
                                     numbers)
            self.same(told_rank(makers, width), rank_of(rows))

    def test_rows_that_bar(self):
        chance = random.Random(172)
        for _ in range(40):
            width = chance.randint(1, 9)
            rows = self.drawn(chance, chance.randint(1, 7), width)
            found = barring_rows([as_row(row) for row in rows], width)
            self.same(len(found), width - rank_of(rows))
            for bar in found:
                self.assertFalse(any(sum(one * other for one, other in zip(bar, row)) for row in rows))
            self.assertEqual(solved(found)[1], sorted(solved(found)[1]))
            self.same(rank_of(found), len(found))
        self.same([barring_rows([], 2), barring_rows([], 0), barring_rows([{}], 1)], [((1, 0), (0, 1)), (), ((1,),)])
