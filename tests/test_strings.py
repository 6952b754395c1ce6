"""[21.1] to [21.6] and the functions of risewords.text.strings."""

import random
import re
from fractions import Fraction
from math import gcd
from time import perf_counter

from oracles import mix_of, pair
from risewords.errors import InvalidOperation, ParseError, TooMany, UnknownName
from risewords.order.orders import Order
from risewords.side.letters import Letters
from risewords.text import strings
from risewords.text.strings import KINDS, is_text, kind_of_text, read_value, write_value
from risewords.word.mixes import Mix
from risewords.word.rows import rows_of
from support import LONG, LONGER, LONGEST, STRANGE, Case
from test_letters import drawn as drawn_letters
from test_orders import closed, drawn_order

SIXTY = LONGER - 1
TWENTY = tuple((place % 3 + 1,) * (place % 4) for place in range(20))
INTEGER = re.compile("0|-?[1-9][0-9]{0,59}")
NUMBER = re.compile("(-?[1-9][0-9]{0,59})/([1-9][0-9]{0,59})")
NO_KINDS = STRANGE + ("Row", "row ", "order2", "", KINDS, ("row",), ["row"], 1, 0, Mix.of((2,)), "rowrows")
# Values of each kind with their texts.
TEXTS = {
    "row": (((2, 1), "row 2 1"), ((), "row -"), ((40,), "row 40"), ((1,) * 40, "row" + " 1" * 40), ((13, 27), "row 13 27")),
    "rows": ((((2, 1), (), (3,)), "rows 2 1 ; - ; 3"), (((),), "rows -"), (((5,),), "rows 5"), (((1,), (1,)), "rows 1 ; 1")),
    "word": (("", "word -"), ("xxy", "word xxy"), ("yx", "word yx"), ("x" * 40, "word " + "x" * 40)),
    "ratio": (((-3, 2), "ratio -3/2"), ((0, 1), "ratio 0"), ((7, 1), "ratio 7"), ((-SIXTY, LONG), f"ratio -{SIXTY}/{LONG}")),
    "mix": ((Mix({(): (2, 3), (3,): (-1, 1)}), "mix 2/3 : - ; -1 : 3"), (Mix({}), "mix"), (Mix.of((2, 1)), "mix 1 : 2 1"),
            (Mix({(1, 1): SIXTY, (1,): (1, SIXTY)}), f"mix 1/{SIXTY} : 1 ; {SIXTY} : 1 1")),
    "letters": ((Letters({"xy": (1, 1), "yx": (-1, 1)}), "letters 1 : xy ; -1 : yx"), (Letters({}), "letters"),
                (Letters({"": (-2, 3)}), "letters -2/3 : -"), (Letters.of("y" * 10), "letters 1 : " + "y" * 10)),
    "order": ((Order(("x", "y", "y"), ((1, 0), (2, 0))), "order xyy ; 1 0 ; 2 0"), (Order((), ()), "order -"),
              (Order(("x",), ()), "order x"), (Order(("y",) * 12, ((11, 10),)), "order " + "y" * 12 + " ; 11 10")),
}


def is_integer_part(part, low=None, high=None):
    if not INTEGER.fullmatch(part):
        return False
    return (low is None or int(part) >= low) and (high is None or int(part) <= high)


def is_number_part(part, zero=False):
    if is_integer_part(part):
        return zero or part != "0"
    found = NUMBER.fullmatch(part)
    return bool(found) and int(found[2]) > 1 and gcd(int(found[1]), int(found[2])) == 1


def is_word_part(part):
    return part == "-" or bool(re.fullmatch("[xy]{1,40}", part))


def goes_on(run, part):
    """Whether a part can stand in a row run behind others."""
    if not run:
        return part == "-" or is_integer_part(part, 1, 40)
    return run[0] != "-" and is_integer_part(part, 1, 40 - sum(map(int, run)))


def runs_of(parts):
    """The parts behind the kind, cut at each part ;"""
    found = [[]]
    for part in parts:
        if part == ";":
            found.append([])
        else:
            found[-1].append(part)
    return found


def stands(parts, at):
    """Whether the part at a place can stand there, if all parts ahead of it can."""
    kind, part, runs = parts[0], parts[at], runs_of(parts[1:at])
    here, first = runs[-1], len(runs) == 1
    if kind in ("word", "ratio"):
        return at == 1 and (is_word_part(part) if kind == "word" else is_number_part(part, True))
    if kind == "row":
        return goes_on(here, part)
    if kind == "rows":
        return bool(here) and len(runs) < 20 if part == ";" else goes_on(here, part)
    if kind == "order":
        if first:
            return is_word_part(part) if not here else len(here) == 1 and part == ";"
        size = len(runs[0][0].replace("-", ""))
        return part == ";" if len(here) == 2 else is_integer_part(part, 0, size - 1)
    if len(here) < 2:
        return is_number_part(part) if not here else part == ":"
    if kind == "mix":
        return len(here) > 2 if part == ";" else goes_on(here[2:], part)
    return part == ";" if len(here) == 3 else is_word_part(part)


def is_whole_text(parts):
    """Whether parts that can all stand are a text."""
    kind, runs = parts[0], runs_of(parts[1:])
    if kind in ("row", "rows", "word", "ratio"):
        return all(runs)
    if kind == "order":
        pairs = [tuple(map(int, run)) for run in runs[1:]]
        if not runs[0] or any(len(each) != 2 for each in pairs):
            return False
        size = len(runs[0][0].replace("-", ""))
        fine = size <= 12 and len(pairs) <= 100 and all(low != high for low, high in closed(size, pairs))
        return fine and tuple(pairs) == closed(size, pairs)
    if len(parts) == 1:
        return True
    if any(len(run) < 3 for run in runs):
        return False
    keys = [tuple(map(int, run[2:])) if kind == "mix" and run[2] != "-" else () if kind == "mix" else run[2].replace("-", "")
            for run in runs]
    fine = kind == "mix" or (len({len(key) for key in keys}) == 1 and len(keys[0]) <= 10)
    return fine and all(low < high for low, high in zip(keys, keys[1:]))


def spot_of(text):
    """The spot of a string, None for a text."""
    parts = text.split(" ")
    if parts[0] not in KINDS:
        return 0
    for at in range(1, len(parts)):
        if not stands(parts, at):
            return at
    return None if is_whole_text(parts) else len(parts)


def drawn_row(chance, most=12):
    left, row = chance.randint(0, most), []
    while left:
        row.append(chance.randint(1, min(left, 4)))
        left -= row[-1]
    return tuple(row)


def drawn_value(chance, kind):
    if kind == "row":
        return drawn_row(chance, 40)
    if kind == "rows":
        return tuple(drawn_row(chance) for _ in range(chance.randint(1, 20)))
    if kind == "word":
        return "".join(chance.choice("xy") for _ in range(chance.randint(0, 40)))
    if kind == "ratio":
        return pair(Fraction(chance.randint(-50, 50), chance.randint(1, 50)))
    if kind == "mix":
        return mix_of({drawn_row(chance): Fraction(chance.randint(-9, 9), chance.randint(1, 9)) for _ in range(chance.randint(0, 6))})
    if kind == "letters":
        return drawn_letters(chance, chance.randint(0, 10), chance.randint(0, 5))
    return drawn_order(chance, chance.randint(0, 8), chance.randint(0, 8))


class Written(Case):
    def test_constants(self):
        self.same([strings.MAX_TEXT, strings.MAX_TOGETHER, strings.KINDS],
                  [20000, 20, ("row", "rows", "word", "ratio", "mix", "letters", "order")])

    def test_known_texts(self):
        for kind in KINDS:
            for value, text in TEXTS[kind]:
                self.same(write_value(value, kind=kind), text)
                found = read_value(text)
                self.assertTrue(found == value and type(found) is type(value))
                self.same([kind_of_text(text), is_text(text)], [kind, True])

    def test_there_and_back(self):
        chance = random.Random(151)
        for kind in KINDS:
            for _ in range(25):
                value = drawn_value(chance, kind)
                text = write_value(value, kind=kind)
                self.assertTrue(read_value(text) == value)
                self.same([kind_of_text(text), is_text(text), spot_of(text)], [kind, True, None])
                self.same(write_value(read_value(text), kind=kind), text)

    def test_values_of_two_kinds(self):
        self.same([write_value((2, 1), kind=kind) for kind in ("row", "ratio")], ["row 2 1", "ratio 2"])
        self.same([write_value(value, kind=kind) for value, kind in (((), "row"), ("", "word"), (((),), "rows"))],
                  ["row -", "word -", "rows -"])
        self.same([write_value(((2, 1),), kind="rows"), write_value((2, 1), kind="row")], ["rows 2 1", "row 2 1"])

    def test_twenty_rows_and_words_of_forty_letters(self):
        self.same(write_value(TWENTY, kind="rows").count(";"), 19)
        self.assertTrue(read_value(write_value(TWENTY, kind="rows")) == TWENTY)
        for kind, value in (("rows", TWENTY + ((),)), ("rows", ()), ("word", "x" * 41), ("row", (41,)), ("rows", ((1,) * 41,))):
            self.fails(InvalidOperation, write_value, value, kind=kind)

    def test_values_of_other_kinds(self):
        fine = {kind: [value for value, _ in TEXTS[kind]] for kind in KINDS}
        for kind in KINDS:
            for other in KINDS:
                for value in fine[other]:
                    if kind != other and not (kind, other) in (("row", "ratio"), ("ratio", "row"), ("row", "rows"), ("rows", "row")):
                        self.fails(InvalidOperation, write_value, value, kind=kind)
        common = [value for value in STRANGE if value != ""] + [1, 0, LONGEST, Mix, Order, ("x",), (2, True), (1, 0), [2, 1], {}]
        wrong = {"rows": [[(2, 1)], ((2, 1), 3), ((2, 1), [3]), ((2, 0),), ((True,),), {(2, 1): 1}, "2 1", ""],
                 "word": ["xz", "XY", " ", "x y", "-", "x" * 41], "ratio": [(2, 4), (1, -2), (0, 2), (1, 2, 3), [1, 2], ""],
                 "row": [(41,), (2, 0), (20, 21), "21", ""]}
        for kind in KINDS:
            for value in common + wrong.get(kind, [(), (2, 1), "", "xy"]):
                self.fails(InvalidOperation, write_value, value, kind=kind)

    def test_no_kinds(self):
        for kind in NO_KINDS:
            self.fails(UnknownName(kind), write_value, (2, 1), kind=kind)
            self.fails(UnknownName(kind), write_value, None, kind=kind)

    def test_long_integers(self):
        for number in (LONGER, -LONGER, LONGEST ** 30):
            self.fails(TooMany(60), write_value, (number, 1), kind="ratio")
        self.fails(TooMany(60), write_value, (1, LONGER), kind="ratio")
        self.fails(InvalidOperation, write_value, (LONGER, 10), kind="ratio")
        self.fails(TooMany(60), write_value, Mix({(2,): SIXTY}) * 2, kind="mix")
        self.fails(TooMany(60), write_value, Mix({(2,): (1, SIXTY)}) * (1, 2), kind="mix")
        self.fails(TooMany(60), write_value, Letters({"x": (SIXTY, 1)}) * -2, kind="letters")
        self.fails(InvalidOperation, write_value, (LONGER,), kind="row")
        great = Mix({row: 1 for row in list(rows_of(13))[:4096]})
        self.fails(TooMany(60), write_value, great + Mix({(2,): SIXTY}) * 2, kind="mix")

    def test_great_texts(self):
        self.fails(TooMany(20000), write_value, Mix({row: 1 for row in list(rows_of(13))[:4096]}), kind="mix")
        rows, text = list(rows_of(11)), ""
        for many in range(1, len(rows) + 1):
            mix = Mix({row: 10 ** 8 for row in rows[:many]})
            if len("mix" + " ;".join(" 100000000 : " + " ".join(map(str, row)) for row in rows[:many])) > 20000:
                break
            text = many
        self.assertTrue(19000 < len(write_value(Mix({row: 10 ** 8 for row in rows[:text]}), kind="mix")) <= 20000)
        self.fails(TooMany(20000), write_value, mix, kind="mix")
        # A number with more or fewer digits makes the text as long as it can be, and longer by one.
        base = {row: 10 ** 8 for row in rows[:text]}
        spare = 20000 - len(write_value(Mix(base), kind="mix"))
        exact = Mix({**base, rows[0]: 10 ** (8 + spare)})
        self.same([len(write_value(exact, kind="mix")), read_value(write_value(exact, kind="mix")) == exact], [20000, True])
        self.fails(TooMany(20000), write_value, Mix({**base, rows[0]: 10 ** (9 + spare)}), kind="mix")


class Read(Case):
    def spot(self, text, spot):
        """The string is no text, with this spot."""
        self.same(spot_of(text), spot)
        self.fails(ParseError(spot), read_value, text)
        self.fails(ParseError(spot), kind_of_text, text)
        self.assertIs(is_text(text), False)

    def test_kinds(self):
        for text in ("", " ", "Row 1", "row2", "rowrow", " row 1", "\n", "ratios 1", "1", "-", ";", "row\n1", "type"):
            self.spot(text, 0)
        for value in STRANGE + (1, (), ("row 1",), ["row", "1"], Mix.of((2,)), True):
            if not isinstance(value, str):
                self.fails(ParseError(0), read_value, value)
                self.fails(ParseError(0), kind_of_text, value)
                self.assertIs(is_text(value), False)

    def test_rows(self):
        for text, spot in (("row", 1), ("row ", 1), ("row 0", 1), ("row -1", 1), ("row 01", 1), ("row +1", 1), ("row 41", 1),
                           ("row 40 1", 2), ("row 20 20 1", 3), ("row - -", 2), ("row 1 -", 2), ("row - 1", 2), ("row 1 ;", 2),
                           ("row 1 ; 2", 2), ("row 2  1", 2), ("row 2 ", 2), ("row  2", 1), ("row 1 x", 2), ("row 1/2", 1),
                           ("row 1 " + "1" * 61, 2), ("row ;", 1), ("row " + "1 " * 40 + "1", 41), ("row 1\n", 1), ("row 1.0", 1)):
            self.spot(text, spot)
        for text, spot in (("rows", 1), ("rows ;", 1), ("rows 1 ;", 3), ("rows 1 ; ;", 3), ("rows - 1", 2), ("rows - ; 0", 3),
                           ("rows 1 ;; 2", 2), ("rows 40 1 ; 2", 2), ("rows 40 ; 40 1", 4), ("rows 1 ; - -", 4), ("rows - ; ", 3)):
            self.spot(text, spot)
        self.spot("rows " + "1 ; " * 20 + "1", 40)
        self.spot("rows " + "1 ; " * 19 + "1 ;", 40)
        self.spot("rows " + "1 ; " * 20 + "bad", 40)
        self.same(read_value("rows " + "1 ; " * 19 + "1"), ((1,),) * 20)

    def test_words_and_ratios(self):
        for text, spot in (("word", 1), ("word ", 1), ("word xz", 1), ("word x y", 2), ("word -x", 1), ("word --", 1), ("word xy ", 2),
                           ("word " + "x" * 41, 1), ("word X", 1), ("word - -", 2), ("word  x", 1), ("word 1", 1)):
            self.spot(text, spot)
        for text, spot in (("ratio", 1), ("ratio ", 1), ("ratio 2/4", 1), ("ratio 2/1", 1), ("ratio 2/0", 1), ("ratio 0/1", 1),
                           ("ratio 0/2", 1), ("ratio -0", 1), ("ratio 1/-2", 1), ("ratio 1/02", 1), ("ratio 01/2", 1), ("ratio 1/", 1),
                           ("ratio /2", 1), ("ratio 1/2/3", 1), ("ratio 1 / 2", 2), ("ratio 1/2 3", 2), ("ratio -", 1), ("ratio --1", 1),
                           ("ratio +1", 1), ("ratio 1 ", 2), ("ratio " + "1" * 61, 1), ("ratio 1/" + "3" * 61, 1), ("ratio x", 1),
                           ("ratio -1/1", 1), ("ratio 1e5", 1), ("ratio 1_0", 1), ("ratio 3/3", 1)):
            self.spot(text, spot)
        for text, value in (("ratio 0", (0, 1)), ("ratio -5", (-5, 1)), ("ratio 1/" + "9" * 60, (1, SIXTY)), ("word -", "")):
            self.same(read_value(text), value)

    def test_mixes(self):
        for text, spot in (("mix ", 1), ("mix 0 : 1", 1), ("mix 1", 2), ("mix 1 :", 3), ("mix 1 1", 2), ("mix : 1", 1), ("mix 1 : 3 ;", 5),
                           ("mix 1 : ;", 3), ("mix 1 : 3 : 2", 4), ("mix 1 : - 2", 4), ("mix 1 : 3 ; 1 : 2 1", 9), ("mix 1 : 3 ; 1 : 3", 8),
                           ("mix 1 : 3 ; 0 : 4", 5), ("mix 2/4 : 3", 1), ("mix 1 : 40 1", 4), ("mix 1 : 3 ; 1", 6), ("mix 1 : 3 ; ; 1", 5),
                           ("mix 1 : 3 ", 4), ("mix - : 3", 1), ("mix 1 : 2 ; 1 : 2 1 ; x", 10), ("mix ;", 1), ("mix 1 : -  ; 1 : 1", 4),
                           ("mix 1 : 1 ; 1 : -", 8), ("mix 1:3", 1)):
            self.spot(text, spot)
        self.same(read_value("mix 1 : - ; -2/3 : 1 ; 1 : 1 1").terms, {(): (1, 1), (1,): (-2, 3), (1, 1): (1, 1)})

    def test_letters(self):
        for text, spot in (("letters ", 1), ("letters 1 : x ; 1 : xy", 8), ("letters 1 : y ; 1 : x", 8), ("letters 1 : x ; 1 : x", 8),
                           ("letters 1 : " + "x" * 11, 4), ("letters 1 : " + "x" * 41, 3), ("letters 1 : x y", 4), ("letters 0 : x", 1),
                           ("letters 1 : -  ", 4), ("letters 1 : x ;", 5), ("letters 1 : 1", 3), ("letters 1 : - ; 1 : -", 8),
                           ("letters 1 : - ; 1 : x", 8), ("letters 1 : ;", 3), ("letters x", 1), ("letters 1 x", 2), ("letters 1 : x : y", 4)):
            self.spot(text, spot)
        self.same(read_value("letters 1/2 : xxy ; 3 : yxx").terms, {"xxy": (1, 2), "yxx": (3, 1)})

    def test_orders(self):
        for text, spot in (("order", 1), ("order ", 1), ("order xyy ; 2 0 ; 1 0", 8), ("order xyy ; 1 0 ; 1 0", 8), ("order xyy ; 3 0", 3),
                           ("order xyy ; 0 3", 4), ("order xyy ; -1 0", 3), ("order xyy ; 0", 4), ("order xyy ;", 3), ("order xyy 1 0", 2),
                           ("order xyy ; 1 0 2", 5), ("order xyy ; 1 1", 5), ("order xyy ; 0 1 ; 1 0", 8), ("order yyy ; 0 1 ; 1 2", 8),
                           ("order - ; 0 0", 3), ("order - ;", 3), ("order " + "y" * 13, 2), ("order " + "y" * 13 + " ; 12 13", 4),
                           ("order " + "y" * 13 + " ; 12 0", 5), ("order " + "y" * 41, 1), ("order xz", 1), ("order xy ; 0 01", 4),
                           ("order xy ; 0 1 ;", 6), ("order xy ; ; 0 1", 3), ("order xyy ;  1 0", 3), ("order xy : 0 1", 2)):
            self.spot(text, spot)
        self.same(read_value("order yyy ; 0 1 ; 0 2 ; 1 2").pairs, ((0, 1), (0, 2), (1, 2)))
        many = "order yy" + " ; 0 1" * 101
        self.spot(many, len(many.split(" ")))

    def test_drawn_strings(self):
        chance = random.Random(152)
        tokens = ["", "-", ";", ":", "0", "1", "2", "3", "12", "40", "41", "-1", "01", "1/2", "2/4", "-3/5", "0/2", "x", "y", "xy",
                  "yx", "z", "y" * 11, "1" * 61, "row", "mix"]
        spots = {}
        for _ in range(4000):
            kind = chance.choice(KINDS)
            parts = write_value(drawn_value(chance, kind), kind=kind).split(" ")[:chance.choice((4, 9, 60))]
            for _ in range(chance.choice((0, 1, 1, 2))):
                at = chance.randrange(len(parts) + 1)
                parts[at:at + chance.choice((0, 1, 1))] = chance.choice(([], [chance.choice(tokens)], [chance.choice(tokens)]))
            text = " ".join(parts)
            spot = spot_of(text)
            spots[spot] = spots.get(spot, 0) + 1
            if spot is None:
                self.same(write_value(read_value(text), kind=kind_of_text(text)), text)
            else:
                self.fails(ParseError(spot), read_value, text)
            self.assertIs(is_text(text), spot is None)
        self.assertTrue(spots[None] > 300 and len(spots) > 20)

    def test_great_strings(self):
        text = "row" + " " * 19997
        self.same(len(text), 20000)
        self.fails(ParseError(1), read_value, text)
        for long in (text + " ", "row 1" + " 1" * 20000, "x" * 30000):
            self.fails(ParseError(0), read_value, long)
            self.assertIs(is_text(long), False)
        rows = "rows " + " ; ".join(["1 " * 39 + "1"] * 20)
        self.same(read_value(rows), ((1,) * 40,) * 20)
        many = "order yy" + " ; 0 1" * 3332
        self.same(len(many), 20000)
        self.fails(ParseError(len(many.split(" "))), read_value, many)

    def test_what_is_not_true(self):
        self.assertIs(is_text("row 2 1") and not is_text("rows 2 1 ;"), True)
        self.assertNotEqual(write_value(((2, 1),), kind="rows").split(" ")[0], "row")
        self.assertNotEqual(write_value((2, 1), kind="row"), write_value((2, 1), kind="ratio"))


class Whole(Case):
    def test_little_time(self):
        mix = mix_of({row: Fraction(10 ** 20 + place, 7 ** 20) for place, row in enumerate(list(rows_of(9))[:200])})
        start = perf_counter()
        for _ in range(5):
            text = write_value(mix, kind="mix")
            self.assertTrue(10000 < len(text) <= 20000)
            self.assertTrue(read_value(text) == mix)
            is_text("order yy" + " ; 0 1" * 3332)
            is_text("row " + "1 " * 9990)
        self.assertLess(perf_counter() - start, 1)

    def test_the_functions_stand_in_the_module_itself(self):
        for name in ("write_value", "kind_of_text", "read_value", "is_text"):
            self.assertEqual(getattr(strings, name).__module__, "risewords.text.strings")
