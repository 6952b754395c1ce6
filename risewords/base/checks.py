"""Checks of arguments that many functions share."""

from risewords.base.exact import is_whole
from risewords.errors import InvalidNumber, UnknownName


def need_between(number, low, high):
    """Refuses all but the integers from `low` to `high`."""
    if not is_whole(number) or number < low or number > high:
        raise InvalidNumber(number)


def need_one_of(name, names):
    """Refuses all but the words in a tuple."""
    if name not in names:
        raise UnknownName(name)
