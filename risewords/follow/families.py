"""Families of mixes that follow: sums, duals, raised rows, derived rows and round rows."""

from risewords.base.checks import need_between
from risewords.errors import InvalidOperation, TooMany
from risewords.word.mixes import mix_of_tops
from risewords.word.rows import dual_row, firm_rows, is_firm, need_row, row_of, word_of

MAX_FAMILY = 12
MOST_RAISED = 11


def sum_mix(weight, length):
    """All firm rows of a weight and a length, less the row of the weight alone."""
    need_between(weight, 2, MAX_FAMILY)
    need_between(length, 1, weight - 1)
    return _difference([row for row in firm_rows(weight) if len(row) == length], [(weight,)])


def _difference(rows, others):
    """The mix of some rows, as often as they stand, less some others."""
    tops = {}
    for row in rows:
        tops[row] = tops.get(row, 0) + 1
    for row in others:
        tops[row] = tops.get(row, 0) - 1
    return mix_of_tops(tops, 1)


def dual_mix(row):
    """The row less its dual."""
    need_row(row)
    _need_firm(row)
    _need_light(sum(row))
    return _difference([row], [dual_row(row)])


def _need_firm(row):
    """Refuses () and a row that is not firm."""
    if row == () or not is_firm(row):
        raise InvalidOperation("a firm row other than () is needed")


def _need_light(weight):
    """Refuses a weight above 12 of the rows that are made."""
    if weight > MAX_FAMILY:
        raise TooMany(MAX_FAMILY)


def raisings(row, many):
    """The ascending tuple of all rows that come of a row by raising it."""
    need_row(row)
    need_between(many, 0, MOST_RAISED)
    if row == ():
        raise InvalidOperation("the row () has no entries to raise")
    _need_light(sum(row) + many)
    return tuple(_raised_rows(row, many))


def _raised_rows(row, many):
    """The ascending list of all rows that come of a row other than () by raising it."""
    first = row[0]
    if len(row) == 1:
        return [(first + many,)]
    found = []
    for more in range(many + 1):
        found.extend([(first + more, *rest) for rest in _raised_rows(row[1:], many - more)])
    return found


def raised_mix(row, many):
    """All rows that come of a row by raising it, less all that come of its dual."""
    need_row(row)
    need_between(many, 0, MOST_RAISED)
    _need_firm(row)
    _need_light(sum(row) + many)
    return _difference(_raised_rows(row, many), _raised_rows(dual_row(row), many))


def derived_mix(row, many):
    """The mix of the word of a row, derived."""
    need_row(row)
    need_between(many, 1, MOST_RAISED)
    _need_firm(row)
    _need_light(sum(row) + many)
    word = word_of(row)
    fillings = ["x" + filling + "y" for filling in _words(many - 1)]
    made = {"x": [], "y": []}
    for place, letter in enumerate(word):
        front, rear = word[:place], word[place + 1:]
        made[letter].extend([row_of(front + filling + rear) for filling in fillings])
    return _difference(made["x"], made["y"])


def _words(length):
    """The list of all words of so many letters."""
    words = [""]
    for _ in range(length):
        words = [word + letter for word in words for letter in ("x", "y")]
    return words


def round_mix(row):
    """The mix of a row, gone round: each turn, cut at its first entry in all ways, less the turn that is raised."""
    need_row(row)
    if row == () or max(row) == 1:
        raise InvalidOperation("a row with an entry above 1 is needed")
    _need_light(sum(row) + 1)
    parted, heavier = [], []
    for place in range(len(row)):
        first, rest = row[place], row[place + 1:] + row[:place]
        parted.extend([(first - less, *rest, less + 1) for less in range(first - 1)])
        heavier.append((first + 1, *rest))
    return _difference(parted, heavier)
