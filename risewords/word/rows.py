"""Rows of positive integers, and their words of the letters x and y."""

from risewords.base.checks import need_between
from risewords.base.exact import is_whole
from risewords.base.ratios import binomial
from risewords.errors import InvalidOperation, InvalidRow, TooMany

MAX_WEIGHT = 40
MOST_LISTED = 16
MOST_JOINED = 12
MOST_COUNTED = 200
OTHER_LETTER = {"x": "y", "y": "x"}


def is_row(value):
    """Whether the value is a row with a weight of at most 40."""
    if not isinstance(value, tuple):
        return False
    return all([is_whole(entry) and entry >= 1 for entry in value]) and sum(value) <= MAX_WEIGHT


def need_row(row):
    """Refuses what is no row."""
    if not is_row(row):
        raise InvalidRow("a row is a tuple of integers of at least 1 with a weight of at most 40")


def weight_of(row):
    """The sum of the entries."""
    need_row(row)
    return sum(row)


def is_firm(row):
    """Whether the row is () or begins with at least 2."""
    need_row(row)
    return row == () or row[0] >= 2


def word_of(row):
    """The word of a row."""
    need_row(row)
    return "".join(["x" * (entry - 1) + "y" for entry in row])


def is_word(value, most):
    """Whether the value is a string of letters x and y, at most so many."""
    return isinstance(value, str) and len(value) <= most and all([letter in OTHER_LETTER for letter in value])


def row_of(word):
    """The row with a word."""
    if not is_word(word, MAX_WEIGHT) or (word != "" and word[-1] != "y"):
        raise InvalidOperation("the word of a row has at most 40 letters x and y, and is empty or ends in y")
    return tuple([len(run) + 1 for run in word.split("y")[:-1]])


def dual_row(row):
    """The firm row whose word is that of the row from its end, with x and y exchanged."""
    if not is_firm(row):
        raise InvalidOperation("only firm rows have a dual")
    return row_of("".join([OTHER_LETTER[letter] for letter in word_of(row)[::-1]]))


def turned_row(row):
    """The row whose entries end just where those of the row do not."""
    need_row(row)
    if row == ():
        raise InvalidOperation("the row () is not turned over")
    ends = _ends_of(row)
    weight = sum(row)
    places = [place for place in range(1, weight) if place not in ends]
    return _row_with_ends([*places, weight])


def _ends_of(row):
    """The places at which the entries of a row end, as the keys of a dict."""
    ends = {}
    place = 0
    for entry in row:
        place = place + entry
        ends[place] = True
    return ends


def _row_with_ends(places):
    """The row whose entries end at ascending places."""
    starts = [0, *places]
    return tuple([place - start for place, start in zip(places, starts)])


def joinings(row):
    """The ascending tuple of all rows that come of adding up neighbours of the row."""
    need_row(row)
    if len(row) > MOST_JOINED:
        raise TooMany(MOST_JOINED)
    return tuple(sorted(_joined_lists(row)))


def _joined_lists(row):
    """All joinings of a row: the first entry stands alone, or is added to what follows it."""
    if len(row) < 2:
        return [row]
    rests = _joined_lists(row[1:])
    alone = [(row[0], *rest) for rest in rests]
    return alone + [(row[0] + rest[0], *rest[1:]) for rest in rests]


def rows_of(weight):
    """Yields all rows of a weight, ascending."""
    need_between(weight, 0, MOST_LISTED)
    yield from _row_list(weight)


def firm_rows(weight):
    """Yields all firm rows of a weight, ascending."""
    need_between(weight, 0, MOST_LISTED)
    yield from _firm_list(weight)


def _row_list(weight):
    """The list of all rows of a weight, ascending."""
    if weight < 2:
        return [(1,) * weight]
    half = weight // 2
    return _spliced(_row_list(half), _row_list(weight - half))


def _firm_list(weight):
    """The list of all firm rows of a weight, ascending."""
    if weight < 4:
        return [row for row in _row_list(weight) if row == () or row[0] > 1]
    # The first half has a weight of at least 2, so it alone tells whether the row is firm.
    half = weight // 2
    return _spliced(_firm_list(half), _row_list(weight - half))


def _spliced(heads, tails):
    """All rows made of a head and a tail, side by side or with the entries that meet added up.

    They ascend if heads and tails do: a row whose entry ends behind the head is less than one
    whose entry goes on.
    """
    grown = {}
    found = []
    for head in heads:
        last = head[-1]
        if last not in grown:
            grown[last] = [(last + tail[0], *tail[1:]) for tail in tails]
        found.extend([head + tail for tail in tails])
        front = head[:-1]
        found.extend([front + tail for tail in grown[last]])
    return found


def row_count(weight, length, *, firm=False):
    """How many rows there are with a weight and a length; if asked for, only firm ones."""
    need_between(weight, 0, MOST_COUNTED)
    need_between(length, 0, MOST_COUNTED)
    if not isinstance(firm, bool):
        raise InvalidOperation("firm is True or False")
    if weight == 0 or length == 0:
        return 1 if weight == length else 0
    # A firm row with 1 taken off its first entry is any row of the weight less 1.
    shared = weight - 1 if firm else weight
    return binomial(shared - 1, length - 1) if shared > 0 else 0
