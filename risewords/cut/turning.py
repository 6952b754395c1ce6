"""Sums with a told greatest member, and lists that are turned by binomials."""

from risewords.base.checks import need_between
from risewords.base.exact import is_exact, reduced, shared_bottom
from risewords.cut.falling import begun_sums, common_multiple, powers_for, quotients, raised
from risewords.errors import InvalidOperation
from risewords.word.rows import need_row

MAX_PLACE = 60
MAX_LISTED = 61


def top_sum(place, row):
    """The top sum of a place and a row, a ratio."""
    _need_place(place, row)
    tops, bottom = _top_sums(place + 1, row)
    return reduced(tops[place], bottom)


def top_list(many, row):
    """The tuple of the top sums of the first places, so many of them."""
    need_between(many, 1, MAX_LISTED)
    _need_filled(row)
    tops, bottom = _top_sums(many, row)
    return tuple([reduced(top, bottom) for top in tops])


def turned_value(place, row):
    """The top sum of the row turned over, reckoned from the top sums of the row itself."""
    _need_place(place, row)
    tops, bottom = _top_sums(place + 1, row)
    return reduced(_turned(tops)[place], bottom)


def sum_by_tops(bound, row):
    """The slack sum of a row for a bound, added up from top sums."""
    need_between(bound, 1, MAX_LISTED + 1)
    _need_filled(row)
    tops, bottom = _top_sums(bound - 1, row)
    return reduced(sum(tops), bottom)


def _need_place(place, row):
    """Refuses what is no place, and then what is no row other than ()."""
    need_between(place, 0, MAX_PLACE)
    _need_filled(row)


def _need_filled(row):
    """Refuses what is no row, and then ()."""
    need_row(row)
    if row == ():
        raise InvalidOperation("a row other than () is needed")


def _top_sums(many, row):
    """The list of the first top sums of a row, times a bottom; the bottom."""
    multiple = common_multiple(many)
    powers = powers_for([row], quotients(multiple, many))
    return begun_sums({row: 1}, powers, False), raised(multiple, sum(row))


def turned_list(numbers):
    """The turned list of a list of ratios."""
    tops, bottom = _list_tops(numbers)
    return tuple([reduced(top, bottom) for top in _turned(tops)])


def difference_table(numbers):
    """The table of a list, below it its differences, below these their differences, and so on."""
    tops, bottom = _list_tops(numbers)
    return tuple([tuple([reduced(top, bottom) for top in row]) for row in _differences(tops)])


def is_turned(one, other):
    """Whether the second list is the turned one of the first one."""
    _need_list(one)
    _need_list(other)
    if len(one) != len(other):
        raise InvalidOperation("both lists need one length")
    return turned_list(one) == other


def _need_list(numbers):
    """Refuses what is no tuple of 1 to 61 ratios."""
    if not isinstance(numbers, tuple) or not 1 <= len(numbers) <= MAX_LISTED:
        raise InvalidOperation("a tuple of 1 to 61 ratios is needed")
    if not all([is_exact(number) for number in numbers]):
        raise InvalidOperation("a ratio is a pair of integers in lowest terms, the second one above 0")


def _list_tops(numbers):
    """The ratios of a list, times a bottom; the bottom."""
    _need_list(numbers)
    bottom = shared_bottom(numbers)
    return [top * (bottom // below) for top, below in numbers], bottom


def _differences(tops):
    """The rows of the difference table of a list of integers."""
    rows = [tops]
    while len(rows[-1]) > 1:
        last = rows[-1]
        rows.append([one - other for one, other in zip(last, last[1:])])
    return rows


def _turned(tops):
    """The turned list of a list of integers: the first members of its difference table."""
    return [row[0] for row in _differences(tops)]
