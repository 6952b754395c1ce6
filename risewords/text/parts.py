"""Parts of texts: each function reads what begins at a place, and raises ParseError where a part cannot stand."""

from math import gcd

from risewords.errors import ParseError
from risewords.word.rows import MAX_WEIGHT, is_word

DIGITS = "0123456789"
MOST_DIGITS = 60
EMPTY = "-"
BEHIND = ":"
BETWEEN = ";"


def integer_of(part):
    """The integer that a part tells, or None."""
    digits = part[1:] if part[:1] == "-" else part
    if not 1 <= len(digits) <= MOST_DIGITS or not all([sign in DIGITS for sign in digits]):
        return None
    return None if digits[0] == "0" and part != "0" else int(part)


def part_at(parts, at):
    """The part at a place; if there is none, a part is missing."""
    if at == len(parts):
        raise ParseError(at)
    return parts[at]


def need_part(parts, at, wanted):
    """Refuses all but one part at a place."""
    if part_at(parts, at) != wanted:
        raise ParseError(at)


def need_end(parts, at):
    """Refuses a part behind the last one that can stand."""
    if at < len(parts):
        raise ParseError(at)


def read_number(parts, at):
    """The ratio that the number part at a place tells."""
    first, slash, second = part_at(parts, at).partition("/")
    top = integer_of(first)
    bottom = integer_of(second) if slash else 1
    if top is None or bottom is None or (slash and bottom < 2) or gcd(top, bottom) != 1:
        raise ParseError(at)
    return (top, bottom)


def read_word(parts, at):
    """The word that the word part at a place tells."""
    part = part_at(parts, at)
    if part == EMPTY:
        return ""
    if part == "" or not is_word(part, MAX_WEIGHT):
        raise ParseError(at)
    return part


def read_integer(parts, at, low, high):
    """The integer that the part at a place tells, if it is within bounds."""
    number = integer_of(part_at(parts, at))
    if number is None or number < low or number > high:
        raise ParseError(at)
    return number


def read_run(parts, at):
    """The row that the row run at a place tells, and the place behind it."""
    if part_at(parts, at) == EMPTY:
        return (), at + 1
    row = [read_integer(parts, at, 1, MAX_WEIGHT)]
    at += 1
    while at < len(parts) and parts[at] != BETWEEN:
        row.append(read_integer(parts, at, 1, MAX_WEIGHT - sum(row)))
        at += 1
    return tuple(row), at
