"""Texts that tell rows, words, ratios, mixes, letters and orders."""

from risewords.base.checks import need_one_of
from risewords.base.exact import is_exact
from risewords.base.ratios import is_integer, ratio_text
from risewords.errors import InvalidLetters, InvalidOperation, InvalidOrder, ParseError, TooMany
from risewords.order.orders import Order
from risewords.side.letters import Letters
from risewords.text.parts import BEHIND, BETWEEN, EMPTY, need_end, need_part, read_integer, read_number, read_run
from risewords.text.parts import read_word
from risewords.word.mixes import Mix
from risewords.word.rows import MAX_WEIGHT, is_row, is_word

MAX_TEXT = 20000
MAX_TOGETHER = 20
MOST_DIGITS = 60
KINDS = ("row", "rows", "word", "ratio", "mix", "letters", "order")


def write_value(value, *, kind):
    """The text of a value of a kind."""
    need_one_of(kind, KINDS)
    if not _is_of_kind(value, kind):
        raise InvalidOperation("the value is not of this kind")
    if not all([is_integer(number) for number in _long_integers(value, kind)]):
        raise TooMany(MOST_DIGITS)
    text = " ".join([kind, *_parts_of(value, kind)])
    if len(text) > MAX_TEXT:
        raise TooMany(MAX_TEXT)
    return text


def _is_of_kind(value, kind):
    """Whether the value is of a kind, with integers of any size."""
    if kind == "row":
        return is_row(value)
    if kind == "rows":
        return isinstance(value, tuple) and 1 <= len(value) <= MAX_TOGETHER and all([is_row(row) for row in value])
    if kind == "word":
        return is_word(value, MAX_WEIGHT)
    if kind == "ratio":
        return is_exact(value)
    if kind == "mix":
        return isinstance(value, Mix)
    return isinstance(value, Letters) if kind == "letters" else isinstance(value, Order)


def _long_integers(value, kind):
    """The list of the integers of a value of a kind that can be long."""
    if kind == "ratio":
        return list(value)
    if kind in ("mix", "letters"):
        return [number for ratio in value.terms.values() for number in ratio]
    return []


def _parts_of(value, kind):
    """The list of the parts behind the kind."""
    if kind == "row":
        return _run_parts(value)
    if kind == "rows":
        return _with_between([_run_parts(row) for row in value])
    if kind == "word":
        return [value or EMPTY]
    if kind == "ratio":
        return [ratio_text(value)]
    if kind == "mix":
        return _with_between([[ratio_text(ratio), BEHIND, *_run_parts(row)] for row, ratio in value])
    if kind == "letters":
        return _with_between([[ratio_text(ratio), BEHIND, word or EMPTY] for word, ratio in value.terms.items()])
    return _with_between([["".join(value.colours) or EMPTY]] + [[str(low), str(high)] for low, high in value.pairs])


def _run_parts(row):
    """The list of the parts of the row run of a row."""
    return [str(entry) for entry in row] or [EMPTY]


def _with_between(groups):
    """The list of the parts of all groups, with a part between two of them."""
    parts = []
    for told in groups:
        parts.extend([BETWEEN, *told])
    return parts[1:]


def kind_of_text(text):
    """The kind of a text."""
    read_value(text)
    return text.split(" ")[0]


def is_text(value):
    """Whether the value is a text."""
    try:
        read_value(value)
    except ParseError:
        return False
    return True


def read_value(text):
    """The value that a text tells."""
    if not isinstance(text, str) or len(text) > MAX_TEXT:
        raise ParseError(0)
    parts = text.split(" ")
    kind = parts[0]
    if kind not in KINDS:
        raise ParseError(0)
    if kind == "mix":
        # A text is too short for more rows than a mix can have.
        return Mix(_read_terms(parts, kind))
    if kind == "letters":
        return _read_letters(parts)
    if kind == "rows":
        return _read_rows(parts)
    return _read_order(parts) if kind == "order" else _read_single(parts, kind)


def _read_single(parts, kind):
    """The row, the word or the ratio of a text of one run or one part."""
    if kind == "row":
        row, at = read_run(parts, 1)
        need_end(parts, at)
        return row
    value = read_word(parts, 1) if kind == "word" else read_number(parts, 1)
    need_end(parts, 2)
    return value


def _read_rows(parts):
    """The tuple of the rows of a text."""
    row, at = read_run(parts, 1)
    rows = [row]
    while at < len(parts):
        if len(rows) == MAX_TOGETHER:
            raise ParseError(at)
        need_part(parts, at, BETWEEN)
        row, at = read_run(parts, at + 1)
        rows.append(row)
    return tuple(rows)


def _read_terms(parts, kind):
    """The dict from rows or words to ratios that a text tells."""
    keys, ratios = [], []
    at = 1
    more = len(parts) > 1
    while more:
        ratio = read_number(parts, at)
        if ratio[0] == 0:
            raise ParseError(at)
        need_part(parts, at + 1, BEHIND)
        key, at = read_run(parts, at + 2) if kind == "mix" else (read_word(parts, at + 2), at + 3)
        keys.append(key)
        ratios.append(ratio)
        more = at < len(parts)
        if more:
            need_part(parts, at, BETWEEN)
            at += 1
    if not _ascends(keys):
        raise ParseError(len(parts))
    return {key: ratio for key, ratio in zip(keys, ratios)}


def _ascends(values):
    """Whether each value is less than the one behind it."""
    return all([low < high for low, high in zip(values, values[1:])])


def _read_letters(parts):
    """The letters of a text."""
    terms = _read_terms(parts, "letters")
    try:
        return Letters(terms)
    except InvalidLetters:
        raise ParseError(len(parts))


def _read_order(parts):
    """The order of a text."""
    colours = read_word(parts, 1)
    pairs = []
    at = 2
    while at < len(parts):
        need_part(parts, at, BETWEEN)
        low = read_integer(parts, at + 1, 0, len(colours) - 1)
        pairs.append((low, read_integer(parts, at + 2, 0, len(colours) - 1)))
        at += 3
    try:
        made = Order(tuple(colours), tuple(pairs))
    except InvalidOrder:
        raise ParseError(len(parts))
    if made.pairs != tuple(pairs):
        raise ParseError(len(parts))
    return made
