"""[20.1] to [20.4] and the class Desk."""

import operator
import random
from fractions import Fraction
from time import perf_counter

from oracles import pair, value_of
from risewords.cut.sums import cut_value
from risewords.desk import desk as module
from risewords.desk.desk import Desk
from risewords.errors import (InvalidMix, InvalidNumber, InvalidOperation, NothingToUndo, Refused, TooMany, UnknownName)
from risewords.follow.relations import relation
from risewords.prime.residues import mix_rest
from risewords.weave.leading import led_back, led_forth
from risewords.weave.products import WAYS, joined, laid, product, woven
from risewords.word.mixes import Mix
from risewords.word.rows import rows_of
from support import LONG, LONGER, LONGEST, NO_INTEGERS, STRANGE, Case
from test_products import NO_MIXES, NO_WAYS

ZERO, UNIT, ONE, TWO, THREE = Mix({}), Mix.of(()), Mix.of((1,)), Mix.of((2,)), Mix.of((3,))
NAMES = "abcdefghijkl"
NO_NAMES = (None, True, False, "", "A", "a1", "a b", " a", "a\n", "abcdefghi", "x" * 3000, 1, 0, (), ("a",), ["a"], {"a": 1}, TWO,
            "-", "a_b", LONG)
# A relation of the weight 5 and one of the weight 3: it follows, part by part.
FOLLOWS = relation((2,), (3,)) * (2, 3) + relation((1,), (2,))


def desk_with(**mixes):
    found = Desk()
    for name, mix in mixes.items():
        found.keep(name, mix)
    return found


def state(one):
    """All that a desk shows."""
    return ({name: one.mix(name).terms for name in one.names}, {label: one.claimed(label) for label in one.labels}, one.deeds)


def many_rows(many):
    return Mix({row: 1 for row in list(rows_of(10))[:many]})


class Kept(Case):
    def test_constants(self):
        self.same([module.MAX_KEPT, module.MAX_CLAIMS, module.MAX_ROWS], [12, 12, 400])

    def test_an_empty_desk(self):
        one = Desk()
        self.same([one.names, one.labels, one.deeds, len(one), str(one)], [(), (), 0, 0, "desk of 0 mixes, 0 claims"])

    def test_keeping_and_dropping(self):
        one = Desk()
        self.same([one.keep("b", TWO), one.keep("abcdefgh", ONE), one.keep("b", THREE), one.keep("a", ZERO)], [1, 2, 3, 4])
        self.same([one.names, len(one), one.mix("b").terms, one.mix("a").terms], [("a", "abcdefgh", "b"), 3, {(3,): (1, 1)}, {}])
        self.same([one.drop("abcdefgh"), one.names, one.deeds, str(one)], [5, ("a", "b"), 5, "desk of 2 mixes, 0 claims"])
        self.fails(UnknownName("abcdefgh"), one.mix, "abcdefgh")

    def test_names(self):
        one = desk_with(a=TWO)
        for name in NO_NAMES:
            self.fails(InvalidOperation, one.keep, name, TWO)
            self.fails(InvalidOperation, one.keep, name, None)
            self.fails(InvalidOperation, one.multiply, name, "b", "b", way="mixed")
            self.fails(InvalidOperation, one.claim, name, None)
            self.fails(InvalidOperation, one.claim, name, ("firm", "a"))
            self.fails(UnknownName(name), one.mix, name)
            self.fails(UnknownName(name), one.claimed, name)
            self.fails(UnknownName(name), one.drop, name)
            self.fails(UnknownName(name), one.let_go, name)
            self.assertIs(name in one, False)
        for value in NO_MIXES:
            self.fails(InvalidMix, one.keep, "a", value)
        self.same(state(one), ({"a": TWO.terms}, {}, 1))

    def test_twelve_names_and_a_thirteenth(self):
        one = Desk()
        for name in NAMES:
            one.keep(name, TWO)
        self.fails(TooMany(12), one.keep, "m", TWO)
        self.fails(TooMany(12), one.keep, "m", many_rows(401))
        self.fails(TooMany(12), one.multiply, "m", "a", "a", way="laid")
        self.same([one.keep("a", THREE), one.deeds, len(one)], [13, 13, 12])
        self.same([one.drop("b"), one.keep("m", TWO)], [14, 15])

    def test_great_mixes(self):
        one = Desk()
        self.same(one.keep("a", many_rows(400)), 1)
        self.fails(TooMany(400), one.keep, "b", many_rows(401))
        long = Mix({(2,): LONGER - 1}) + Mix({(2,): 1})
        self.fails(TooMany(60), one.keep, "b", long)
        self.fails(TooMany(60), one.keep, "b", Mix({(2,): (1, LONG)}) * (1, 10))
        self.fails(TooMany(60), one.keep, "b", -long)
        self.fails(TooMany(400), one.keep, "b", many_rows(401) + long)
        self.same(one.keep("b", Mix({(2,): (LONGER - 1, LONG), (3,): 1 - LONGER})), 2)
        self.fails(TooMany(60), one.multiply, "c", "b", "b", way="laid")
        self.same(one.deeds, 2)

    def test_products(self):
        chance = random.Random(141)
        one = desk_with(f=Mix({(2, 1): (1, 2), (1,): -1}), g=Mix({(3,): 2, (): (1, 3)}))
        for way in WAYS:
            deeds = one.deeds
            self.same(one.multiply("h", "f", "g", way=way), deeds + 1)
            self.same(one.mix("h").terms, product(one.mix("f"), one.mix("g"), way=way).terms)
        one.multiply("f", "f", "f", way="woven")
        self.same(one.mix("f").terms, woven(Mix({(2, 1): (1, 2), (1,): -1}), Mix({(2, 1): (1, 2), (1,): -1})).terms)
        for names in (("x", "f"), ("f", "x"), ("x", "y")):
            wanted = [name for name in names if name in "xy"][0]
            self.fails(UnknownName(wanted), one.multiply, "h", *names, way="mixed")
        for name in NO_NAMES:
            self.fails(UnknownName(name), one.multiply, "h", name, name, way="mixed")
            self.fails(UnknownName(name), one.multiply, "h", "f", name, way="laid")
        for way in NO_WAYS:
            self.fails(UnknownName(way), one.multiply, "h", "f", "g", way=way)
        one.keep("heavy", Mix.of((11,)))
        self.fails(TooMany(12), one.multiply, "h", "heavy", "f", way=chance.choice(WAYS))
        self.fails(UnknownName("mixed"), one.multiply, "h", "heavy", "heavy", way="mixed")
        one.keep("many", Mix.of((1,) * 6) + Mix.of((2, 1, 1, 1, 1)))
        self.fails(TooMany(400), one.multiply, "h", "many", "many", way="joined")

    def test_leading(self):
        mixes = {"a": Mix({(2, 1): 1, (1, 1, 2): (1, 3)}), "b": ZERO, "c": THREE}
        one = desk_with(**mixes)
        self.same(one.lead("forth"), 4)
        self.same([one.mix(name).terms for name in mixes], [led_forth(mix).terms for mix in mixes.values()])
        one.lead("back")
        self.same([one.mix(name).terms for name in mixes], [mix.terms for mix in mixes.values()])
        one.lead("back")
        self.same([one.mix(name).terms for name in mixes], [led_back(mix).terms for mix in mixes.values()])
        for word in STRANGE + ("Forth", "back ", "away", 1, ("forth",), TWO):
            self.fails(UnknownName(word), one.lead, word)
        self.same([Desk().lead("forth"), desk_with(a=Mix.of((1,) * 40)).deeds], [1, 1])

    def test_leading_for_the_least_name_first(self):
        tall, wide, long = Mix.of((1,) * 13), Mix.of((1,) * 10), Mix({(1, 1): LONGER - 1, (2,): LONGER - 1})
        for first, second, error in ((tall, wide, TooMany(12)), (wide, tall, TooMany(400)), (long, wide, TooMany(60)),
                                     (wide, long, TooMany(400)), (tall, long, TooMany(12)), (long, tall, TooMany(60))):
            one = desk_with(b=second, a=first)
            self.fails(error, one.lead, "forth")
            self.fails(UnknownName("side"), one.lead, "side")
            self.same(one.deeds, 2)
        self.same(desk_with(a=Mix.of((1,) * 9)).lead("forth"), 2)

    def test_membership_and_equality(self):
        one, other = desk_with(a=TWO, b=ONE), desk_with(b=ONE, a=THREE)
        self.same(["a" in one, "c" in one, one == other], [True, False, False])
        other.keep("a", TWO)
        self.assertTrue(one == other and not one != other and one.deeds != other.deeds)
        other.claim("x", ("firm", "a"))
        self.assertTrue(one != other and not one == other)
        one.claim("x", ("equal", "a", "a"))
        self.assertFalse(one == other)
        for value in STRANGE + (1, (), TWO, {"a": TWO}, Desk, Desk()):
            self.assertTrue(not one == value and one != value)
            self.assertIs(value in one, value == "a")
        self.assertTrue(Desk() == Desk())

    def test_no_other_signs(self):
        one = desk_with(a=TWO)
        for call in (iter, list, lambda value: value["a"], lambda value: -value):
            self.fails(TypeError, call, one)
        for call in (operator.add, operator.mul, operator.lt, operator.or_):
            self.fails(TypeError, call, one, one)
            self.fails(TypeError, call, one, 1)


class Claims(Case):
    def judged(self, mixes, claim):
        """Whether a desk with these mixes takes up a claim."""
        one = desk_with(**mixes)
        before = state(one)
        try:
            self.same(one.claim("l", claim), one.deeds)
        except Refused as found:
            self.same(found.reason, ("claim", "l"))
            self.same(state(one), before)
            return False
        self.same([one.claimed("l"), one.labels, one.deeds], [claim, ("l",), len(mixes) + 1])
        return True

    def test_equal_and_firm(self):
        mixes = {"f": TWO, "g": Mix({(2,): (1, 1)}), "h": Mix({(2,): 2}), "k": Mix({(2,): 1, (1, 2): 1}), "n": ZERO, "u": UNIT}
        for claim, wanted in ((("equal", "f", "g"), True), (("equal", "f", "h"), False), (("equal", "n", "n"), True),
                              (("equal", "f", "k"), False), (("firm", "f"), True), (("firm", "k"), False),
                              (("firm", "n"), True), (("firm", "u"), True)):
            self.assertIs(self.judged(mixes, claim), wanted)

    def test_products(self):
        chance = random.Random(142)
        f, g = Mix({(2, 1): (1, 2), (1,): -1}), Mix({(3,): 2, (): (1, 3)})
        for way in WAYS:
            right = product(f, g, way=way)
            row = chance.choice(list(right.terms))
            near = right + Mix({row: (1, 7)})
            self.assertIs(self.judged({"f": f, "g": g, "h": right}, ("product", "f", "g", way, "h")), True)
            self.assertIs(self.judged({"f": f, "g": g, "h": right}, ("product", "g", "f", way, "h")), True)
            self.assertIs(self.judged({"f": f, "g": g, "h": near}, ("product", "f", "g", way, "h")), False)
            self.assertIs(self.judged({"n": ZERO, "g": Mix.of((40,))}, ("product", "n", "g", way, "n")), True)
            self.assertIs(self.judged({"n": ZERO, "g": Mix.of((7,))}, ("product", "g", "g", way, "n")), False)
        self.assertIs(self.judged({"f": TWO, "h": joined(TWO, TWO)}, ("product", "f", "f", "woven", "h")), False)

    def test_cut_sums(self):
        for mix in (Mix({(2, 1): (1, 2), (1,): -1}), ZERO, UNIT, Mix.of((3, 1, 2))):
            for bound in (1, 2, 5):
                right = value_of(bound, mix)
                self.assertIs(self.judged({"f": mix}, ("cut", "f", bound, pair(right))), True)
                self.assertIs(self.judged({"f": mix}, ("cut", "f", bound, pair(right + Fraction(1, 10 ** 9)))), False)
        self.assertIs(self.judged({"f": ONE}, ("cut", "f", 40, cut_value(40, ONE))), True)

    def test_rests(self):
        mix = Mix({(2, 1): (1, 2), (3,): -1, (): (2, 3)})
        for prime in (5, 7, 11, 499):
            right = mix_rest(prime, mix)
            self.assertIs(self.judged({"f": mix}, ("rest", "f", prime, right)), True)
            self.assertIs(self.judged({"f": mix}, ("rest", "f", prime, (right + 1) % prime)), False)
        # 2 and 3 divide bottoms: there the rest is not told.
        for prime in (2, 3):
            for number in range(prime):
                self.assertIs(self.judged({"f": mix}, ("rest", "f", prime, number)), False)
        self.assertIs(self.judged({"f": ZERO}, ("rest", "f", 2, 0)), True)

    def test_what_follows(self):
        for mix, wanted in ((ZERO, True), (FOLLOWS, True), (FOLLOWS + Mix.of((4,)), False), (TWO, False), (UNIT, False),
                            (relation((2,), (6,)), True), (relation((2,), (7,)), False), (relation((1,), (3,)) + ONE, False),
                            (Mix({(1, 2): 1}), False), (Mix({(9,): 1}), False), (FOLLOWS - relation((3, 1), (4,)), True)):
            self.assertIs(self.judged({"f": mix}, ("follows", "f")), wanted)

    def test_what_is_no_claim(self):
        one = desk_with(f=TWO, g=TWO)
        wrong = [("equal", "f"), ("equal", "f", "g", "g"), ("firm",), ("firm", "f", "g"), ("follows",), ("follows", "f", 1), (),
                 ("equals", "f", "g"), ("Firm", "f"), ["firm", "f"], ("firm", "F"), ("firm", ""), ("firm", "abcdefghi"),
                 ("firm", 1), ("firm", None), ("firm", ["f"]), ("firm", TWO), ("equal", "f", TWO), ("equal", 1, "f"),
                 ("product", "f", "g", "mixed", "f"), ("product", "f", "g", "laid"), ("product", "f", "g", ["laid"], "f"),
                 ("product", "f", "g", "f", "laid"), ("product", "f", "g", "laid", 1), ("product", "f", "g", WAYS, "f"),
                 ("cut", "f", 0, (0, 1)), ("cut", "f", 41, (1, 1)), ("cut", "f", True, (0, 1)), ("cut", "f", 2, 1),
                 ("cut", "f", 2, (2, 2)), ("cut", "f", 2, (1, True)), ("cut", "f", 2, [1, 1]), ("cut", "f", 2, (LONGER, 1)),
                 ("cut", "f", "2", (1, 1)), ("cut", "f", 2), ("cut", "f", 2, (1, 1), 1), ("cut", "f", LONGEST, (1, 1)),
                 ("rest", "f", 4, 1), ("rest", "f", 1, 0), ("rest", "f", 503, 1), ("rest", "f", 7, 7), ("rest", "f", 7, -1),
                 ("rest", "f", 7, True), ("rest", "f", True, 0), ("rest", "f", 7, (1, 1)), ("rest", "f", 7), ("rest", "f", 2, False),
                 (["firm"], "f"), (TWO, "f"), (None, "f"), (1, "f"), ("f", "firm"), "firm f", {"firm": "f"}, TWO, one]
        for value in wrong + list(STRANGE):
            self.fails(InvalidOperation, one.claim, "a", value)
            self.fails(InvalidOperation, one.claim, "A", value)
        self.same(state(one), ({"f": TWO.terms, "g": TWO.terms}, {}, 2))

    def test_errors_in_their_order(self):
        one = desk_with(f=TWO)
        one.claim("a", ("firm", "f"))
        self.fails(Refused(("label", "a")), one.claim, "a", ("firm", "z"))
        self.fails(Refused(("label", "a")), one.claim, "a", ("firm", "f"))
        self.fails(UnknownName("z"), one.claim, "b", ("firm", "z"))
        self.fails(UnknownName("y"), one.claim, "b", ("product", "f", "y", "laid", "z"))
        self.fails(UnknownName("z"), one.claim, "b", ("product", "z", "y", "laid", "f"))
        self.fails(UnknownName("z"), one.claim, "b", ("equal", "f", "z"))
        self.fails(Refused(("claim", "b")), one.claim, "b", ("follows", "f"))
        for label in "bcdefghijkl":
            one.claim(label, ("firm", "f"))
        self.same(one.labels, tuple(NAMES))
        self.fails(TooMany(12), one.claim, "m", ("firm", "z"))
        self.fails(TooMany(12), one.claim, "m", ("follows", "f"))
        self.fails(Refused(("label", "l")), one.claim, "l", ("firm", "f"))
        self.same([one.let_go("c"), one.labels, one.claim("m", ("firm", "f"))], [14, tuple("abdefghijkl"), 15])
        self.fails(UnknownName("c"), one.let_go, "c")
        self.fails(UnknownName("c"), one.claimed, "c")
        self.same(one.claimed("m"), ("firm", "f"))


class Stays(Case):
    def test_deeds_that_claims_refuse(self):
        one = desk_with(f=TWO, g=THREE, h=joined(TWO, THREE))
        one.claim("p", ("product", "f", "g", "joined", "h"))
        one.claim("c", ("cut", "f", 3, (5, 4)))
        before = state(one)
        for call, args, label in ((one.keep, ("f", THREE), "c"), (one.keep, ("g", TWO), "p"), (one.keep, ("h", TWO), "p"),
                                  (one.drop, ("f",), "c"), (one.drop, ("g",), "p"), (one.drop, ("h",), "p"),
                                  (one.lead, ("forth",), "p")):
            self.fails(Refused(("claim", label)), call, *args)
            self.same(state(one), before)
        self.fails(Refused(("claim", "p")), one.multiply, "h", "f", "g", way="woven")
        self.same([one.multiply("h", "g", "f", way="joined"), one.keep("f", Mix({(2,): 1})), one.keep("x", ONE)], [6, 7, 8])
        one.let_go("p")
        self.same([one.keep("g", TWO), one.drop("h"), one.labels], [10, 11, ("c",)])

    def test_claims_of_one_name_only_hang_on_it(self):
        one = desk_with(f=FOLLOWS, g=TWO)
        one.claim("b", ("follows", "f"))
        one.claim("a", ("rest", "g", 7, 0))
        self.fails(Refused(("claim", "a")), one.keep, "g", UNIT)
        self.fails(Refused(("claim", "b")), one.keep, "f", TWO)
        self.same([one.keep("f", FOLLOWS * 2), one.keep("g", ZERO)], [5, 6])

    def test_leading_and_claims(self):
        one = desk_with(f=Mix({(2, 1): 1}), g=Mix({(2, 1): 1}), k=ZERO)
        one.claim("a", ("equal", "f", "g"))
        one.claim("b", ("firm", "f"))
        self.same([one.lead("forth"), one.lead("back"), one.lead("back")], [6, 7, 8])
        one.claim("c", ("product", "k", "f", "laid", "k"))
        self.same(one.lead("forth"), 10)
        one = desk_with(f=ONE, g=TWO, h=laid(ONE, TWO))
        one.claim("a", ("product", "f", "g", "laid", "h"))
        self.fails(Refused(("claim", "a")), one.lead, "forth")
        one.let_go("a")
        one.lead("forth")
        self.same(one.claim("b", ("product", "f", "g", "joined", "h")), 7)
        self.fails(Refused(("claim", "b")), one.lead, "back")

    def test_drawn_deeds(self):
        chance = random.Random(143)
        one, kept, claims = Desk(), {}, {}
        mixes = [TWO, THREE, UNIT, ZERO, FOLLOWS, joined(TWO, THREE), laid(TWO, TWO), Mix.of((1, 1)), relation((2,), (2,))]
        makers = [lambda f, g: ("equal", f, g), lambda f, g: ("firm", f), lambda f, g: ("product", f, g, "joined", f),
                  lambda f, g: ("cut", f, 3, (5, 4)), lambda f, g: ("rest", f, 5, 0), lambda f, g: ("follows", f)]

        def true(claim, mixes):
            probe = Desk()
            for name, mix in mixes.items():
                probe.keep(name, mix)
            try:
                probe.claim("p", claim)
            except (Refused, UnknownName):
                return False
            return True

        done = 0
        for _ in range(150):
            name, deed = chance.choice("fgh"), chance.choice(("keep", "keep", "drop", "claim", "claim", "let_go", "lead"))
            after, told = dict(kept), dict(claims)
            if deed == "keep":
                after[name] = chance.choice(mixes)
                call = (one.keep, (name, after[name]))
            elif deed == "drop" and name in kept:
                del after[name]
                call = (one.drop, (name,))
            elif deed == "claim" and len(kept) == 3 and "l" + name not in claims:
                told["l" + name] = chance.choice(makers)(name, chance.choice("fgh"))
                call = (one.claim, ("l" + name, told["l" + name]))
            elif deed == "let_go" and "l" + name in claims:
                del told["l" + name]
                call = (one.let_go, ("l" + name,))
            elif deed == "lead":
                after = {each: led_forth(mix) for each, mix in kept.items()}
                call = (one.lead, ("forth",))
            else:
                continue
            false = [label for label in sorted(told) if not true(told[label], after)]
            if false:
                self.fails(Refused(("claim", false[0])), call[0], *call[1])
            else:
                done += 1
                self.same(call[0](*call[1]), done)
                kept, claims = after, told
            self.same(state(one), ({each: kept[each].terms for each in sorted(kept)},
                                   {each: claims[each] for each in sorted(claims)}, done))
        self.assertGreater(done, 40)


class Undone(Case):
    def test_undo_and_redo(self):
        one, states = Desk(), []
        calls = [lambda: one.keep("f", TWO), lambda: one.keep("f", TWO), lambda: one.multiply("h", "f", "f", way="laid"),
                 lambda: one.claim("a", ("product", "f", "f", "laid", "h")), lambda: one.let_go("a"), lambda: one.lead("forth"),
                 lambda: one.drop("h")]
        for call in calls:
            states.append(state(one))
            self.same(call(), len(states))
        states.append(state(one))
        for place in range(6, -1, -1):
            self.same([one.undo(), one.deeds], [place, place])
            self.same(state(one), states[place])
        self.fails(NothingToUndo(1), one.undo)
        for place in range(1, 8):
            self.same(one.redo(), place)
            self.same(state(one), states[place])
        self.fails(NothingToUndo(1), one.redo)
        self.same([one.undo(times=7), one.redo(times=3), one.redo(times=0), one.undo(times=0), one.undo(times=2)], [0, 3, 3, 3, 1])
        self.same(state(one), states[1])
        self.fails(NothingToUndo(2), one.undo, times=2)
        self.fails(NothingToUndo(7), one.redo, times=7)
        self.fails(NothingToUndo(LONG), one.redo, times=LONG)
        self.same([one.redo(times=6), state(one) == states[7]], [7, True])

    def test_a_further_deed(self):
        one = desk_with(f=TWO, g=THREE)
        one.undo()
        self.fails(Refused(("claim", "a")), one.claim, "a", ("follows", "f"))
        self.same([one.redo(), one.undo()], [2, 1])
        self.same([one.keep("f", TWO), one.deeds], [2, 2])
        self.fails(NothingToUndo(1), one.redo)
        self.same([one.undo(times=2), one.names], [0, ()])

    def test_wrong_times(self):
        one = desk_with(f=TWO)
        for value in NO_INTEGERS + (-1, -LONG, LONGER, LONGEST):
            self.fails(InvalidNumber(value), one.undo, times=value)
            self.fails(InvalidNumber(value), one.redo, times=value)
        self.same(one.deeds, 1)

    def test_during(self):
        one = desk_with(f=TWO, g=THREE)
        one.undo()
        before = state(one)

        def work(desk):
            self.assertIs(desk, one)
            desk.keep("x", ONE)
            desk.undo(times=2)
            desk.keep("y", ONE)
            return desk.names

        self.same(one.during(work), ("y",))
        self.same(state(one), before)
        self.same([one.redo(), one.names, one.undo()], [2, ("f", "g"), 1])

        def fail(desk):
            desk.keep("x", ONE)
            desk.drop("z")

        self.fails(UnknownName("z"), one.during, fail)
        self.same(state(one), before)
        self.fails(ZeroDivisionError, one.during, lambda desk: [desk.drop("f"), 1 // 0])
        self.same([state(one) == before, one.redo()], [True, 2])
        self.same(one.during(lambda desk: desk.during(lambda same: same.keep("q", TWO)) + desk.deeds), 5)
        self.same([one.during(len), one.deeds], [2, 2])

    def test_twins(self):
        one = desk_with(f=TWO, g=THREE)
        one.claim("a", ("firm", "f"))
        one.undo()
        other = one.twin()
        self.assertTrue(one == other and one.deeds == other.deeds)
        self.same([other.redo(), other.labels, one.labels, one.deeds], [3, ("a",), (), 2])
        other.drop("g")
        self.same([one.names, other.names], [("f", "g"), ("f",)])
        one.keep("k", ONE)
        self.same([other.undo(times=4), other.names, one.names], [0, (), ("f", "g", "k")])
        self.fails(NothingToUndo(1), one.redo)
        self.same(other.redo(times=4), 4)


class Whole(Case):
    def test_little_time(self):
        one = desk_with(f=Mix.of((2, 1, 2)), g=Mix.of((3, 1)), h=joined(Mix.of((2, 1, 2)), Mix.of((3, 1))), k=relation((2,), (6,)))
        start = perf_counter()
        for _ in range(10):
            one.claim("a", ("product", "f", "g", "joined", "h"))
            one.claim("b", ("follows", "k"))
            one.undo(times=2)
        self.assertLess(perf_counter() - start, 1)

    def test_what_stands_in_the_module_itself(self):
        self.assertEqual(Desk.__module__, "risewords.desk.desk")
        for name in ("keep", "multiply", "lead", "drop", "claim", "let_go", "undo", "redo", "during", "mix", "claimed", "names",
                     "labels", "deeds", "twin", "__contains__", "__len__", "__eq__", "__str__"):
            self.assertIn(name, vars(Desk))
