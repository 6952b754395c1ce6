"""[2.1] to [2.7] and the functions of risewords.word.rows."""

from itertools import islice
from math import comb
from time import perf_counter

from risewords.errors import InvalidNumber, InvalidOperation, InvalidRow, TooMany
from risewords.word import rows
from risewords.word.rows import (dual_row, firm_rows, is_firm, is_row, joinings, row_count, row_of, rows_of,
                                 turned_row, weight_of, word_of)
from support import LONG, LONGER, NO_INTEGERS, NO_ROWS, Case

SMALL = [row for weight in range(9) for row in rows_of(weight)]
FIRM = [row for row in SMALL if row == () or row[0] > 1]
HEAVY = [(40,), (1,) * 40, (20, 20), (2,) * 20, (39, 1), (1, 39), (3, 7, 30), (10, 10, 10, 10)]


def compositions(weight):
    """All rows of a weight, made anew: by the places between letters."""
    found = []
    for code in range(2 ** max(weight - 1, 0)):
        row = [1] if weight else []
        for place in range(weight - 1):
            if code >> place & 1:
                row.append(1)
            else:
                row[-1] += 1
        found.append(tuple(row))
    return sorted(found)


class Rows(Case):
    def test_constants(self):
        self.same([rows.MAX_WEIGHT, rows.MOST_LISTED, rows.MOST_JOINED], [40, 16, 12])

    def test_rows(self):
        self.each(is_row, SMALL + HEAVY, True)

    def test_no_rows(self):
        self.each(is_row, NO_ROWS + ((10 ** 4000,),), False)

    def test_weights(self):
        self.same([weight_of(row) for row in ((), (1,), (3, 1), (2, 1, 4))], [0, 1, 4, 7])
        self.same([weight_of(row) for row in HEAVY], [40] * 8)

    def test_firm_rows_begin_with_two_or_more(self):
        for row in SMALL:
            self.assertIs(is_firm(row), row == () or row[0] >= 2)
            if row:
                self.assertIs(is_firm(row), word_of(row)[0] == "x")

    def test_what_is_no_row_is_refused(self):
        for call in (weight_of, is_firm, word_of, dual_row, turned_row, joinings):
            for value in NO_ROWS:
                self.fails(InvalidRow, call, value)


class Words(Case):
    def test_words_by_their_rule(self):
        for row in SMALL + HEAVY:
            word = word_of(row)
            self.assertEqual(word, "".join("x" * (entry - 1) + "y" for entry in row))
            self.same([len(word), word.count("y"), set(word) <= set("xy")], [sum(row), len(row), True])
            self.assertTrue(word == "" or word.endswith("y"))
            self.same(row_of(word), row)

    def test_each_word_has_just_one_row(self):
        for length in range(8):
            for code in range(2 ** length):
                word = "".join("xy"[code >> place & 1] for place in range(length))
                if word == "" or word[-1] == "y":
                    self.assertEqual(word_of(row_of(word)), word)
                else:
                    self.fails(InvalidOperation, row_of, word)

    def test_the_longest_words(self):
        self.same([row_of("x" * 39 + "y"), row_of("y" * 40)], [(40,), (1,) * 40])
        self.fails(InvalidOperation, row_of, "x" * 40 + "y")
        self.fails(InvalidOperation, row_of, "y" * 41)

    def test_no_words(self):
        for value in [value for value in NO_ROWS + NO_INTEGERS if value != ""] + [
                "x", "yx", "Xy", "xY", " y", "y ", "xzy", "y\n", "xy\ny", "x y", b"xy", ["x", "y"], ("x", "y"), 0]:
            self.fails(InvalidOperation, row_of, value)


class Duals(Case):
    def test_duals_by_their_rule(self):
        for row in FIRM:
            word = "".join({"x": "y", "y": "x"}[letter] for letter in reversed(word_of(row)))
            dual = dual_row(row)
            self.same(word_of(dual), word)
            self.same([is_firm(dual), sum(dual), len(dual)], [True, sum(row), sum(row) - len(row)])
            self.same(dual_row(dual), row)

    def test_rows_can_be_their_own_duals(self):
        for row in ((), (2,), (3, 1), (2, 2), (4, 1, 1)):
            self.same(dual_row(row), row)

    def test_heavy_rows(self):
        self.same([dual_row((40,)), dual_row((2,) + (1,) * 38)], [(2,) + (1,) * 38, (40,)])

    def test_rows_that_are_not_firm(self):
        for row in SMALL + HEAVY:
            if row and row[0] == 1:
                self.fails(InvalidOperation, dual_row, row)

    def test_what_is_not_true(self):
        self.assertNotEqual(len(dual_row((4,))), len((4,)))
        self.assertNotEqual(dual_row((3,)), turned_row((3,)))
        self.assertNotEqual(len(joinings(dual_row((4,)))), len(joinings((4,))))
        self.assertFalse(is_firm((2, 1)[::-1]))


class Turned(Case):
    def ends(self, row):
        return {sum(row[:place]) for place in range(1, len(row))}

    def test_turned_rows_by_their_rule(self):
        for row in SMALL[1:] + HEAVY:
            turned = turned_row(row)
            self.assertTrue(is_row(turned))
            self.same([sum(turned), len(turned) + len(row)], [sum(row), sum(row) + 1])
            self.assertEqual(self.ends(turned) | self.ends(row), set(range(1, sum(row))))
            self.assertEqual(self.ends(turned) & self.ends(row), set())
            self.same(turned_row(turned), row)
            self.same(turned_row(row[::-1]), turned[::-1])

    def test_the_empty_row(self):
        self.fails(InvalidOperation, turned_row, ())


class Joinings(Case):
    def test_joinings_by_their_rule(self):
        for row in SMALL:
            found = set()
            for code in range(2 ** max(len(row) - 1, 0)):
                joint = list(row[:1])
                for place, entry in enumerate(row[1:]):
                    if code >> place & 1:
                        joint.append(entry)
                    else:
                        joint[-1] += entry
                found.add(tuple(joint))
            self.same(joinings(row), tuple(sorted(found)))
            self.same(len(found), 2 ** max(len(row) - 1, 0))

    def test_joinings_and_turned_rows(self):
        for weight in range(1, 7):
            for one in rows_of(weight):
                for other in rows_of(weight):
                    self.assertEqual(one in joinings(other), turned_row(other) in joinings(turned_row(one)))

    def test_the_empty_row_and_one_entry(self):
        self.same([joinings(()), joinings((40,))], [((),), ((40,),)])

    def test_twelve_entries_and_thirteen(self):
        self.same(len(joinings((1,) * 12)), 2048)
        self.same(len(joinings((3,) * 11 + (7,))), 2048)
        self.fails(TooMany(12), joinings, (1,) * 13)
        self.fails(TooMany(12), joinings, (1,) * 40)
        self.fails(InvalidRow, joinings, (1,) * 41)
        self.fails(InvalidRow, joinings, (1,) * 13 + (0,))


class Listed(Case):
    def test_all_rows_ascending(self):
        for weight in range(12):
            listed = list(rows_of(weight))
            self.same(listed, compositions(weight))
            self.same(len(listed), 2 ** (weight - 1) if weight else 1)

    def test_firm_rows_ascending(self):
        for weight in range(12):
            listed = list(firm_rows(weight))
            self.same(listed, [row for row in compositions(weight) if row == () or row[0] > 1])
            if weight > 1:
                self.same(len(listed), 2 ** (weight - 2))
        self.same([list(firm_rows(0)), list(firm_rows(1))], [[()], []])

    def test_the_least_weights(self):
        self.same([list(rows_of(weight)) for weight in (0, 1, 2)], [[()], [(1,)], [(1, 1), (2,)]])
        self.same([list(firm_rows(weight)) for weight in (0, 1, 2, 3)], [[()], [], [(2,)], [(2, 1), (3,)]])

    def test_the_greatest_weights(self):
        for weight in (13, 14, 15, 16):
            listed, firm = list(rows_of(weight)), list(firm_rows(weight))
            self.same([len(listed), len(firm)], [2 ** (weight - 1), 2 ** (weight - 2)])
            # Ascending rows of the weight, as many as there are: so each is there once.
            self.assertTrue(all(one < other for one, other in zip(listed, listed[1:])))
            self.assertTrue(all(type(row) is tuple and sum(row) == weight and min(row) > 0 for row in listed))
            self.assertEqual(firm, [row for row in listed if row[0] > 1])
            self.same([listed[0], listed[1], listed[-2], listed[-1]],
                      [(1,) * weight, (1,) * (weight - 2) + (2,), (weight - 1, 1), (weight,)])
            self.same([firm[0], firm[1], firm[-2], firm[-1]],
                      [(2,) + (1,) * (weight - 2), (2,) + (1,) * (weight - 4) + (2,), (weight - 1, 1), (weight,)])

    def test_listing_takes_little_time(self):
        for call in (rows_of, firm_rows):
            start = perf_counter()
            for _ in range(20):
                list(call(16))
            self.assertLess(perf_counter() - start, 1)

    def test_wrong_weights_are_refused_with_the_first_row(self):
        for call in (rows_of, firm_rows):
            for value in NO_INTEGERS + (17, -1, True, LONG, LONGER):
                waiting = call(value)
                self.fails(InvalidNumber(value), next, waiting)

    def test_rows_come_one_by_one(self):
        self.same(list(islice(rows_of(16), 2)), [(1,) * 16, (1,) * 14 + (2,)])


class Counted(Case):
    def test_counts_of_listed_rows(self):
        for weight in range(11):
            for length in range(13):
                self.same(row_count(weight, length), len([row for row in compositions(weight) if len(row) == length]))
                firm = [row for row in firm_rows(weight) if len(row) == length]
                self.same(row_count(weight, length, firm=True), len(firm))
                self.same(row_count(weight, length, firm=False), row_count(weight, length))

    def test_bounds(self):
        self.same([row_count(200, 200), row_count(200, 1), row_count(0, 200), row_count(200, 0)], [1, 1, 0, 0])
        self.same([row_count(200, 100), row_count(200, 100, firm=True)], [comb(199, 99), comb(198, 99)])
        self.same([row_count(200, 200, firm=True), row_count(200, 199, firm=True), row_count(1, 1, firm=True)],
                  [0, 1, 0])
        self.same([row_count(0, 0, firm=True), row_count(0, 1, firm=True), row_count(2, 1, firm=True)], [1, 0, 1])

    def test_wrong_numbers(self):
        for value in NO_INTEGERS + (-1, 201, LONG, LONGER):
            self.fails(InvalidNumber(value), row_count, value, 2)
            self.fails(InvalidNumber(value), row_count, 2, value)
            self.fails(InvalidNumber(value), row_count, value, 201, firm=2)
            self.fails(InvalidNumber(value), row_count, 2, value, firm=2)

    def test_wrong_words_for_firm(self):
        for value in [value for value in NO_INTEGERS + (0, 1, LONG) if not isinstance(value, bool)]:
            self.fails(InvalidOperation, row_count, 5, 2, firm=value)


class Module(Case):
    def test_the_functions_stand_in_the_module_itself(self):
        for name in ("is_row", "weight_of", "is_firm", "word_of", "row_of", "dual_row", "turned_row", "joinings",
                     "rows_of", "firm_rows", "row_count"):
            self.assertEqual(getattr(rows, name).__module__, "risewords.word.rows")
