"""Claims about mixes under names: which tuples are claims, and whether they are true."""

from risewords.base.exact import is_whole
from risewords.base.ratios import is_ratio
from risewords.cut.sums import cut_value
from risewords.errors import Refused, TooMany
from risewords.follow.relations import MOST_WEIGHT, does_follow
from risewords.prime.residues import is_prime, mix_rest
from risewords.weave.products import WAYS, product
from risewords.word.mixes import parts_of

MOST_SIGNS = 8
MAX_CUT = 40
SMALL_LETTERS = "abcdefghijklmnopqrstuvwxyz"
# The places of the names in a claim, by its word.
NAME_PLACES = {"equal": (1, 2), "firm": (1,), "product": (1, 2, 4), "cut": (1,), "rest": (1,), "follows": (1,)}
SIZES = {"equal": 3, "firm": 2, "product": 5, "cut": 4, "rest": 4, "follows": 2}


def is_name(value):
    """Whether the value is a string of one to eight letters from a to z."""
    if not isinstance(value, str) or not 1 <= len(value) <= MOST_SIGNS:
        return False
    return all([sign in SMALL_LETTERS for sign in value])


def is_claim(value):
    """Whether the value is a claim, true or not."""
    if not isinstance(value, tuple) or value == () or not isinstance(value[0], str) or value[0] not in SIZES:
        return False
    if len(value) != SIZES[value[0]] or not all([is_name(name) for name in names_in(value)]):
        return False
    if value[0] == "product":
        return value[3] in WAYS
    if value[0] == "cut":
        return is_whole(value[2]) and 1 <= value[2] <= MAX_CUT and is_ratio(value[3])
    if value[0] == "rest":
        return is_prime(value[2]) and is_whole(value[3]) and 0 <= value[3] < value[2]
    return True


def names_in(claim):
    """The list of the names in a claim, in their order."""
    return [claim[place] for place in NAME_PLACES[claim[0]]]


def is_true(claim, mixes):
    """Whether a claim is true of a dict from names to mixes."""
    if not all([name in mixes for name in names_in(claim)]):
        return False
    word, mix = claim[0], mixes[claim[1]]
    if word == "equal":
        return mix == mixes[claim[2]]
    if word == "firm":
        return mix.is_firm_mix
    if word == "product":
        return _is_product_of(mix, mixes[claim[2]], claim[3], mixes[claim[4]])
    if word == "cut":
        return cut_value(claim[2], mix) == claim[3]
    if word == "rest":
        return _has_rest(mix, claim[2], claim[3])
    return _parts_follow(mix)


def _is_product_of(one, other, way, mix):
    """Whether a mix is the product of two mixes in a way, and these are not too many."""
    try:
        return product(one, other, way=way) == mix
    except TooMany:
        return False


def _has_rest(mix, prime, number):
    """Whether the rest of a mix is told for a prime, and is the number."""
    try:
        return mix_rest(prime, mix) == number
    except Refused:
        return False


def _parts_follow(mix):
    """Whether a mix is firm, has weights to 8 alone, and each part of it follows."""
    if not mix.is_firm_mix or (mix and mix.top_weight > MOST_WEIGHT):
        return False
    return all([does_follow(part) for part in parts_of(mix)])
