"""[18.1] to [18.7], the class Order and the functions of risewords.order.orders."""

import operator
import random
from itertools import islice, permutations, product as lists_of
from math import factorial
from time import perf_counter

from risewords.errors import InvalidNumber, InvalidOperation, InvalidOrder, InvalidRow, TooMany
from risewords.follow.relations import does_follow
from risewords.order import orders
from risewords.order.orders import Order, zigzag, zigzag_gap
from risewords.weave.products import woven
from risewords.word.mixes import Mix
from risewords.word.rows import dual_row, firm_rows, joinings, row_of, rows_of
from support import LONG, LONGER, LONGEST, NO_INTEGERS, NO_ROWS, STRANGE, Case

VEE, CHAIN, NONE = Order(("x", "y", "y"), ((1, 0), (2, 0))), Order(("y", "x"), ((0, 1),)), Order((), ())
NO_ORDERS = STRANGE + ((), 1, ("x",), (("y",), ()), Mix.of((2,)), Order)


def closed(size, pairs):
    """All pairs that follow, by trying again and again."""
    found = set(pairs)
    while True:
        more = {(low, high) for low, middle in found for other, high in found if middle == other} - found
        if not more:
            return tuple(sorted(found))
        found |= more


def drawn_order(chance, size, many, firm=False):
    """An order whose pairs go from one place to another one that stands behind it in a drawn sequence."""
    places = chance.sample(range(size), size)
    pairs = set()
    for _ in range(many if size > 1 else 0):
        low, high = sorted(chance.sample(range(size), 2))
        pairs.add((places[low], places[high]))
    colours = [chance.choice("xy") for _ in range(size)]
    for place in range(size):
        if firm and all(low != place for low, _ in pairs):
            colours[place] = "x"
        if all(high != place for _, high in pairs):
            colours[place] = "y"
    return Order(tuple(colours), tuple(pairs))


def lists_by_rule(order):
    """All sequences of the places in which each stands ahead of those below it, ascending."""
    return [places for places in permutations(range(order.size))
            if all(places.index(high) < places.index(low) for low, high in order.pairs)]


def mix_by_lists(order):
    numbers = {}
    for places in lists_by_rule(order):
        row = row_of("".join(order.colours[place] for place in places))
        numbers[row] = numbers.get(row, 0) + 1
    return Mix(numbers)


class Made(Case):
    def test_constants(self):
        self.same([orders.MAX_PLACES, orders.MAX_ZIGZAG], [12, 8])

    def test_pairs_that_follow_are_added(self):
        chance = random.Random(121)
        for _ in range(30):
            size = chance.randint(1, 8)
            places = chance.sample(range(size), size)
            pairs = []
            for _ in range(chance.randint(0, 9) if size > 1 else 0):
                low, high = sorted(chance.sample(range(size), 2))
                pairs.append((places[low], places[high]))
            colours = tuple(chance.choice("xy") for _ in range(size))
            one = Order(colours, tuple(pairs))
            self.same([one.pairs, one.colours, one.size, len(one)], [closed(size, pairs), colours, size, size])
            self.assertTrue(one == Order(colours, one.pairs) and one == Order(colours, tuple(pairs[::-1]) * 2))

    def test_edges(self):
        self.same([NONE.colours, NONE.pairs, NONE.size, NONE.is_firm_order, len(NONE)], [(), (), 0, True, 0])
        twelve = Order(("y",) * 6 + ("x",) * 6, tuple((place, place + 1) for place in range(11)))
        self.same([twelve.size, len(twelve.pairs), twelve.is_firm_order], [12, 66, True])
        self.same(str(twelve), "order of 12 places yyyyyyxxxxxx with 66 pairs")
        hundred = Order(("y", "x"), ((0, 1),) * 100)
        self.same([hundred.pairs, hundred == CHAIN], [((0, 1),), True])
        self.same([str(VEE), str(CHAIN)], ["order of 3 places xyy with 2 pairs", "order of 2 places yx with 1 pairs"])

    def test_what_tells_no_order(self):
        fine = ("y", "x", "y")
        for colours in (("x",) * 13, ["x"], "xy", ("xy",), ("X",), ("x", 1), ("x", None), ("",), ("x", "z"), {"x": 1}, 1, None,
                        ("y", True), (("x",),), ("x", ["y"]), NONE):
            self.fails(InvalidOrder, Order, colours, ())
            self.fails(InvalidOrder, Order, colours, None)
        for pairs in ([], [(0, 1)], ((0, 1, 2),), ((0,),), ([0, 1],), ((0, 3),), ((-1, 0),), ((0, True),), ((False, 1),), (0, 1),
                      ((0, "1"),), ((0, None),), None, 1, "01", ((0, LONGER),), {(0, 1): 1}, ((0, 1),) * 101, ((0, 1), 2), VEE):
            self.fails(InvalidOrder, Order, fine, pairs)
        for pairs in (((0, 0),), ((0, 1), (1, 0)), ((0, 1), (1, 2), (2, 0)), ((2, 1), (0, 2), (1, 0))):
            self.fails(InvalidOrder, Order, fine, pairs)
        self.fails(InvalidOrder, Order, (), ((0, 0),))
        for value in STRANGE:
            self.fails(InvalidOrder, Order, value, ())
            self.fails(InvalidOrder, Order, fine, value)

    def test_firm_orders(self):
        chance = random.Random(122)
        for _ in range(40):
            size = chance.randint(1, 6)
            one = drawn_order(chance, size, chance.randint(0, 7), firm=chance.random() < 0.7)
            least = [place for place in range(size) if all(high != place for _, high in one.pairs)]
            greatest = [place for place in range(size) if all(low != place for low, _ in one.pairs)]
            firm = all(one.colours[place] == "y" for place in least) and all(one.colours[place] == "x" for place in greatest)
            self.assertIs(one.is_firm_order, firm)
            self.assertIs(one.mix().is_firm_mix, firm)
        self.same([Order(("y",), ()).is_firm_order, Order(("x",), ()).is_firm_order, CHAIN.is_firm_order], [False, False, True])
        self.same(Order(("x", "x"), ((0, 1),)).is_firm_order, False)

    def test_equality(self):
        self.assertTrue(VEE == Order(("x", "y", "y"), ((2, 0), (1, 0))) and not VEE != Order(("x", "y", "y"), ((2, 0), (1, 0))))
        for value in NO_ORDERS + (NONE, CHAIN, Order(("x", "y", "y"), ((1, 0),)), Order(("y", "y", "y"), ((1, 0), (2, 0)))):
            self.assertTrue(not VEE == value and VEE != value)
            self.assertFalse(VEE in [value])

    def test_no_other_signs(self):
        for call in (iter, list, lambda value: 0 in value, lambda value: value[0], lambda value: -value):
            self.fails(TypeError, call, VEE)
        for call in (operator.add, operator.sub, operator.mul, operator.lt, operator.le, operator.and_, operator.or_):
            for value in (VEE, 1, None, (1, 2), Mix.of((2,))):
                self.fails(TypeError, call, VEE, value)


class Lists(Case):
    def test_lists_by_their_rule(self):
        chance = random.Random(123)
        for size in range(7):
            for many in (0, 1, 2, 4, 7):
                one = drawn_order(chance, size, many)
                wanted = lists_by_rule(one)
                self.same(list(one.lists()), wanted)
                self.same(one.list_count(), len(wanted))
                self.same(one.mix().terms, mix_by_lists(one).terms)

    def test_many_places(self):
        free = Order(("y",) * 12, ())
        self.same(free.list_count(), factorial(12))
        self.same(list(islice(free.lists(), 3)), [tuple(range(12)), tuple(range(10)) + (11, 10), tuple(range(9)) + (10, 9, 11)])
        self.same(free.mix().terms, {(1,) * 12: (factorial(12), 1)})
        line = Order(("y",) * 6 + ("x",) * 6, tuple((place, place + 1) for place in range(11)))
        self.same([list(line.lists()), line.list_count()], [[tuple(range(11, -1, -1))], 1])
        self.same(line.mix().terms, {(7, 1, 1, 1, 1, 1): (1, 1)})
        half = Order(("y",) * 6 + ("x",) * 6, tuple((place, place + 6) for place in range(6)))
        self.same(half.list_count(), factorial(12) // 2 ** 6)

    def test_no_places(self):
        self.same([list(NONE.lists()), NONE.list_count(), NONE.mix().terms], [[()], 1, {(): (1, 1)}])

    def test_least_places_of_the_colour_x(self):
        for colours, pairs in ((("x",), ()), (("x", "y"), ()), (("x", "x"), ((0, 1),)), (("y", "x", "x"), ((0, 1),))):
            one = Order(colours, pairs)
            self.fails(InvalidOperation, one.mix)
            self.same([one.list_count(), len(list(one.lists()))], [len(lists_by_rule(one))] * 2)

    def test_two_places_side_by_side(self):
        chance = random.Random(124)
        for _ in range(15):
            one = drawn_order(chance, chance.randint(2, 6), chance.randint(0, 5))
            free = [(low, high) for low in range(one.size) for high in range(low)
                    if (low, high) not in one.pairs and (high, low) not in one.pairs]
            for low, high in free:
                both = one.with_pair(low, high).mix() + one.with_pair(high, low).mix()
                self.same(both.terms, one.mix().terms)

    def test_what_is_not_true(self):
        one, other = Order(("y",) * 4, ((1, 0), (2, 0))), Order(("y",) * 4, ((0, 1), (0, 2)))
        self.same(one.mix().terms, other.mix().terms)
        # In the one order two places lie below another one, in the other order just one does.
        self.same([len({low for low, _ in each.pairs}) for each in (one, other)], [2, 1])
        self.assertTrue(zigzag((2, 2)).mix() != Mix.of((2, 2)))


class Together(Case):
    def test_side_by_side(self):
        chance = random.Random(125)
        for _ in range(15):
            one, other = drawn_order(chance, chance.randint(0, 4), 3), drawn_order(chance, chance.randint(0, 4), 3)
            both = one.beside(other)
            moved = tuple((low + one.size, high + one.size) for low, high in other.pairs)
            self.same([both.colours, both.pairs], [one.colours + other.colours, one.pairs + moved])
            self.same(both.mix().terms, woven(one.mix(), other.mix()).terms)

    def test_too_many_places(self):
        six, seven = Order(("y",) * 6, ()), Order(("x",) * 7, ())
        self.same(six.beside(six).size, 12)
        for one, other in ((six, seven), (seven, six), (six.beside(six), Order(("y",), ()))):
            self.fails(TooMany(12), one.beside, other)
        for value in NO_ORDERS:
            self.fails(InvalidOrder, seven.beside, value)
        self.same(six.beside(six).beside(NONE).size, 12)

    def test_one_more_pair(self):
        one = Order(("y", "x", "y", "x"), ((0, 1), (2, 3)))
        self.same(one.with_pair(1, 2).pairs, ((0, 1), (0, 2), (0, 3), (1, 2), (1, 3), (2, 3)))
        self.assertTrue(one.with_pair(0, 1) == one)
        self.same(one.pairs, ((0, 1), (2, 3)))
        for low, high in ((1, 1), (0, 0), (1, 0), (3, 2)):
            self.fails(InvalidOperation, one.with_pair, low, high)
        self.fails(InvalidOperation, one.with_pair(1, 2).with_pair, 3, 0)
        for value in NO_INTEGERS + (-1, 4, LONG, LONGER, LONGEST):
            self.fails(InvalidNumber(value), one.with_pair, value, 0)
            self.fails(InvalidNumber(value), one.with_pair, value, None)
            self.fails(InvalidNumber(value), one.with_pair, 1, value)
        self.fails(InvalidNumber(0), NONE.with_pair, 0, 0)
        line = Order(("y",) * 12, tuple((place, place + 1) for place in range(11)))
        self.assertTrue(line.with_pair(0, 11) == line)

    def test_mirrored(self):
        chance = random.Random(126)
        for _ in range(15):
            one = drawn_order(chance, chance.randint(1, 6), chance.randint(3, 9), firm=True)
            turned = one.mirrored()
            self.same(turned.pairs, tuple(sorted((high, low) for low, high in one.pairs)))
            self.same(turned.colours, tuple("y" if colour == "x" else "x" for colour in one.colours))
            self.assertTrue(turned.mirrored() == one)
            self.assertIs(turned.is_firm_order, one.is_firm_order)
            if one.is_firm_order:
                duals = {}
                for row, ratio in one.mix():
                    duals[dual_row(row)] = ratio
                self.same(turned.mix().terms, Mix(duals).terms)
        self.assertTrue(NONE.mirrored() == NONE)


class Zigzags(Case):
    def test_zigzags_by_their_rule(self):
        for row in [row for weight in range(7) for row in rows_of(weight)] + [(12,), (1,) * 12, (3, 1, 4, 1, 3)]:
            colours, pairs, place = [], [], 0
            for at, entry in enumerate(row):
                colours += ["y"] + ["x"] * (entry - 1)
                pairs += [(place + step, place + step + 1) for step in range(entry - 1)]
                if at:
                    pairs.append((place, place - 1))
                place += entry
            self.assertTrue(zigzag(row) == Order(tuple(colours), tuple(pairs)))
        self.assertTrue(zigzag(()) == NONE)
        for row in ((13,), (1,) * 13, (40,), (6, 7)):
            self.fails(TooMany(12), zigzag, row)
        for value in NO_ROWS:
            self.fails(InvalidRow, zigzag, value)
            self.fails(InvalidRow, zigzag_gap, value)

    def test_zigzags_of_firm_rows_are_firm(self):
        for weight in range(2, 9):
            for row in firm_rows(weight):
                self.assertIs(zigzag(row).is_firm_order, True)
        for row in ((1,), (1, 2), (1, 1, 3)):
            self.assertIs(zigzag(row).is_firm_order, False)

    def test_gaps_follow(self):
        for weight in range(2, 8):
            for row in firm_rows(weight):
                found = zigzag_gap(row)
                self.same(found.terms, (zigzag(row).mix() - Mix({joining: 1 for joining in joinings(row)})).terms)
                self.assertIs(does_follow(found), True)
        for row in list(firm_rows(8))[::5]:
            self.assertIs(does_follow(zigzag_gap(row)), True)
        for row in ((2,), (3,), (8,)):
            self.same(zigzag_gap(row).terms, {})
        self.same(zigzag((2, 1)).mix().terms, {(2, 1): (2, 1)})

    def test_wrong_rows(self):
        for row in ((), (1,), (1, 2), (1, 39), (1,) * 40):
            self.fails(InvalidOperation, zigzag_gap, row)
        for row in ((9,), (2, 7), (40,), (2,) * 20):
            self.fails(TooMany(8), zigzag_gap, row)


class Whole(Case):
    def test_little_time(self):
        chance = random.Random(127)
        lots = [drawn_order(chance, 8, many) for many in (0, 4, 8)] + [Order(("y",) * 8, ())]
        start = perf_counter()
        for _ in range(5):
            for one in lots:
                one.mix()
                one.list_count()
            for row in ((2, 1, 2, 1, 2), (8,), (2, 1, 1, 1, 1, 1, 1), (2, 2, 2, 2)):
                zigzag_gap(row)
        self.assertLess(perf_counter() - start, 1)

    def test_what_stands_in_the_module_itself(self):
        for name in ("Order", "zigzag", "zigzag_gap"):
            self.assertEqual(getattr(orders, name).__module__, "risewords.order.orders")
        for name in ("colours", "pairs", "size", "is_firm_order", "lists", "list_count", "mix", "beside", "with_pair",
                     "mirrored", "__eq__", "__len__", "__str__"):
            self.assertIn(name, vars(Order))

    def test_all_small_orders(self):
        for colours in lists_of("xy", repeat=2):
            for pairs in ((), ((0, 1),), ((1, 0),)):
                one = Order(colours, pairs)
                if all(colours[place] == "y" for place in (0, 1) if all(high != place for _, high in pairs)):
                    self.same(one.mix().terms, mix_by_lists(one).terms)
                else:
                    self.fails(InvalidOperation, one.mix)
