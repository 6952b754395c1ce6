"""Slack chains: an integer for each letter of a row's word, told from the low or from the high end."""

from math import comb

from risewords.base.checks import need_between, need_one_of
from risewords.base.exact import is_whole, reduced
from risewords.cut.falling import common_multiple, quotients, raised, reached, times_each
from risewords.errors import InvalidOperation, TooMany
from risewords.word.rows import MAX_WEIGHT, need_row, word_of

MAX_BOUND = 200
MAX_LISTED = 2000
KINDS = ("low", "high")


def low_chains(bound, row):
    """The sum of the shares of all low chains, a ratio."""
    return _chain_sum(bound, row, "low")


def high_chains(bound, row):
    """The sum of the shares of all high chains, a ratio."""
    return _chain_sum(bound, row, "high")


def low_list(bound, row):
    """The sums of the shares of the low chains that begin with 1, with 2, and so on."""
    return _chain_list(bound, row, "low")


def high_list(bound, row):
    """The sums of the shares of the high chains that begin with 1, with 2, and so on."""
    return _chain_list(bound, row, "high")


def _need_both(bound, row):
    """Refuses what is no bound, and then what is no row."""
    need_between(bound, 1, MAX_BOUND)
    need_row(row)


def _chain_sum(bound, row, kind):
    """The chain sum of a kind."""
    _need_both(bound, row)
    if row == ():
        return (1, 1)
    sums, bottom = _begun_shares(bound, row, kind)
    return reduced(sum(sums), bottom)


def _chain_list(bound, row, kind):
    """The tuple of the ratios by which the chains of a kind are told by their first integers."""
    _need_both(bound, row)
    if row == ():
        raise InvalidOperation("the chain of the row () does not begin with an integer")
    sums, bottom = _begun_shares(bound, row, kind)
    return tuple([reduced(share, bottom) for share in sums])


def _begun_shares(bound, row, kind):
    """The shares of the chains of a row other than () by their first integers, times a bottom; the bottom."""
    multiple = common_multiple(bound - 1)
    parts = quotients(multiple, bound - 1)
    factors = {"x": parts, "y": parts[::-1]}
    word = word_of(row)
    sums = factors["y"]
    for letter, fall in reversed(list(zip(word, _falls(word, kind)))):
        sums = times_each(factors[letter], reached(sums, fall))
    return sums, raised(multiple, len(word))


def _falls(word, kind):
    """By how much the integer of a letter is at least above the one behind it, 1 or 0, for all letters but the last."""
    if kind == "low":
        return [int(letter == "y") for letter in word[:-1]]
    return [int(letter == "x") for letter in word[1:]]


def _need_kind(bound, row, kind):
    """Refuses what is no bound, then what is no row, and then what is no kind."""
    _need_both(bound, row)
    need_one_of(kind, KINDS)


def chain_count(bound, row, *, kind="low"):
    """The number of the chains of a kind."""
    _need_kind(bound, row, kind)
    weight = sum(row)
    if weight == 0:
        return 1
    falls = sum(_falls(word_of(row), kind))
    # What need not fall is made to fall: each such place lets the integers begin higher by 1.
    return comb(bound - 1 + weight - 1 - falls, weight)


def each_chain(bound, row, *, kind="low"):
    """Yields all chains of a kind, ascending."""
    if chain_count(bound, row, kind=kind) > MAX_LISTED:
        raise TooMany(MAX_LISTED)
    found = _listed_chains(bound, word_of(row), kind)
    for told in found:
        yield told


def _listed_chains(bound, word, kind):
    """The list of all chains of a kind, ascending. There is no beginning that no chain goes on from."""
    if word == "":
        return [()]
    falls = _falls(word, kind)
    least = 1 + sum(falls)
    found = [(number,) for number in range(least, bound)]
    for fall in falls:
        least = least - fall
        found = [(*told, number) for told in found for number in range(least, told[-1] + 1 - fall)]
    return found


def is_chain(bound, row, value, *, kind="low"):
    """Whether the value is a chain of a kind."""
    _need_kind(bound, row, kind)
    if not _are_members(bound, value) or len(value) != sum(row):
        return False
    falls = _falls(word_of(row), kind)
    return all([value[at] - value[at + 1] >= fall for at, fall in enumerate(falls)])


def _are_members(bound, value):
    """Whether the value is a tuple of integers from 1 to the bound less 1."""
    return isinstance(value, tuple) and all([is_whole(number) and 1 <= number < bound for number in value])


def chain_share(bound, row, chain):
    """The share of a chain of either kind, a ratio."""
    _need_both(bound, row)
    if not _are_members(bound, chain) or len(chain) != sum(row):
        raise InvalidOperation("a tuple of as many integers below the bound as the word has letters is needed")
    bottom = 1
    for letter, number in zip(word_of(row), chain):
        bottom = bottom * (number if letter == "x" else bound - number)
    return (1, bottom)


def mirrored_chain(bound, chain):
    """What the bound leaves of the members of a chain, the last one first."""
    need_between(bound, 1, MAX_BOUND)
    if not _are_members(bound, chain) or len(chain) > MAX_WEIGHT:
        raise InvalidOperation("a tuple of at most 40 integers below the bound is needed")
    return tuple([bound - number for number in chain[::-1]])
