"""What sums over chains leave by a prime that bounds them."""

from math import comb

from risewords.base.checks import need_between
from risewords.base.exact import is_whole
from risewords.base.ratios import is_integer
from risewords.cut.falling import begun_sums, powers_for
from risewords.errors import InvalidNumber, InvalidOperation, Refused
from risewords.word.mixes import need_mix
from risewords.word.rows import MAX_WEIGHT, need_row

MAX_PRIME = 499


def is_prime(value):
    """Whether the value is a prime number from 2 to 499."""
    if not is_whole(value) or value < 2 or value > MAX_PRIME:
        return False
    return all([value % divisor != 0 for divisor in range(2, value) if divisor * divisor <= value])


def _need_prime(prime):
    """Refuses all but the prime numbers from 2 to 499."""
    if not is_prime(prime):
        raise InvalidNumber(prime)


def cut_rest(prime, row):
    """The rest of the cut sum of a row for a prime."""
    _need_prime(prime)
    need_row(row)
    return _rows_rest(prime, {row: 1}, True)


def slack_rest(prime, row):
    """The rest of the slack sum of a row for a prime."""
    _need_prime(prime)
    need_row(row)
    return _rows_rest(prime, {row: 1}, False)


def _rows_rest(prime, tops, fall):
    """What the sums of rows, each times an integer, leave by a prime."""
    filled = {row: tops[row] for row in tops if row != ()}
    powers = powers_for(list(filled), _inverses(prime))
    rests = {entry: [number % prime for number in powers[entry]] for entry in powers}
    return (sum(begun_sums(filled, rests, fall)) + tops.get((), 0)) % prime


def _inverses(prime):
    """The list of the rests of 1, 1 / 2, 1 / 3 and so on, below a prime."""
    found = [0, 1]
    for number in range(2, prime):
        # The prime is a multiple of the number and something less, whose inverse is there.
        found.append(-(prime // number) * found[prime % number] % prime)
    return found[1:]


def mix_rest(prime, mix):
    """The rest of the cut sum of a mix for a prime."""
    _need_prime(prime)
    need_mix(mix)
    _need_bottoms(prime, mix)
    return _mix_rest(prime, mix)


def _need_bottoms(prime, mix):
    """Refuses a mix with a number whose bottom the prime divides."""
    if any([ratio[1] % prime == 0 for _, ratio in mix]):
        raise Refused(("bottom", prime))


def _mix_rest(prime, mix):
    """The rest of the cut sum of a mix whose bottoms the prime does not divide."""
    tops = {row: ratio[0] * _power_rest(ratio[1], prime - 2, prime) % prime for row, ratio in mix}
    return _rows_rest(prime, tops, True)


def _power_rest(base, exponent, divisor):
    """What the power of an integer leaves by a divisor."""
    rest = 1
    square = base % divisor
    while exponent > 0:
        if exponent % 2:
            rest = rest * square % divisor
        square = square * square % divisor
        exponent = exponent // 2
    return rest


def one_rest(prime, entry):
    """The rest of the cut sum of the row of one entry, told by its rule."""
    _need_prime(prime)
    if not is_integer(entry) or entry < 1:
        raise InvalidNumber(entry)
    return prime - 1 if entry % (prime - 1) == 0 else 0


def two_rest(prime, one, other):
    """The rest of the cut sum of the row of two entries, told by its rule."""
    _need_prime(prime)
    need_between(one, 1, MAX_WEIGHT)
    need_between(other, 1, MAX_WEIGHT)
    both = one + other
    if prime <= both + 1:
        raise InvalidOperation("the prime is to be above both entries and 1 together")
    number = comb(both, one) * _bernoulli_rest(prime, prime - both)
    rest = number * _power_rest(both, prime - 2, prime) % prime
    return -rest % prime if one % 2 else rest


def _bernoulli_rest(prime, index):
    """What Bernoulli's number of an index from 2 to the prime less 2 leaves by the prime."""
    if index % 2:
        return 0
    # The sum of the powers of the integers below the prime leaves prime * B(index) by prime ** 2.
    square = prime * prime
    total = sum([_power_rest(number, index, square) for number in range(1, prime)])
    return total % square // prime


def choose_rest(prime):
    """What the number of the lots of prime - 1 among 2 * prime - 1 things leaves by prime ** 3."""
    _need_prime(prime)
    return comb(2 * prime - 1, prime - 1) % (prime ** 3)


def holds_for(mix, primes):
    """Whether the rest of the cut sum of a mix is 0 for each prime of a tuple."""
    need_mix(mix)
    if not isinstance(primes, tuple) or not all([is_prime(prime) for prime in primes]):
        raise InvalidOperation("a tuple of prime numbers from 2 to 499 is needed")
    if not all([low < high for low, high in zip(primes, primes[1:])]):
        raise InvalidOperation("the prime numbers are to ascend")
    for prime in primes:
        _need_bottoms(prime, mix)
    return all([_mix_rest(prime, mix) == 0 for prime in primes])


def each_rest(row):
    """Yields the pairs of a prime and the rest of the cut sum of a row, for all primes to 499."""
    need_row(row)
    for prime in range(2, MAX_PRIME + 1):
        if is_prime(prime):
            yield (prime, _rows_rest(prime, {row: 1}, True))
