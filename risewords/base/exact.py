"""Integers and ratios of any size. Nothing that is passed to a calculation is checked here."""

from math import gcd, lcm


def is_whole(value):
    """Whether the value is an integer, of any size."""
    return isinstance(value, int) and not isinstance(value, bool)


def is_exact(value):
    """Whether the value is a ratio of two integers of any size."""
    if not isinstance(value, tuple) or len(value) != 2:
        return False
    top, bottom = value
    return is_whole(top) and is_whole(bottom) and bottom > 0 and gcd(top, bottom) == 1


def reduced(top, bottom):
    """The ratio of two integers, the second one not 0."""
    shared = gcd(top, bottom)
    if bottom < 0:
        shared = -shared
    return (top // shared, bottom // shared)


def added(one, other):
    """The sum of two ratios."""
    return reduced(one[0] * other[1] + other[0] * one[1], one[1] * other[1])


def multiplied(one, other):
    """The product of two ratios."""
    return reduced(one[0] * other[0], one[1] * other[1])


def opposite(ratio):
    """The ratio with the other sign."""
    return (-ratio[0], ratio[1])


def shared_bottom(ratios):
    """The least integer above 0 that makes an integer of each of the ratios."""
    bottom = 1
    for ratio in ratios:
        bottom = lcm(bottom, ratio[1])
    return bottom


def shared_divisor(numbers):
    """The greatest common divisor of the integers, 0 if all of them are 0."""
    divisor = 0
    for number in numbers:
        divisor = gcd(divisor, number)
    return divisor
