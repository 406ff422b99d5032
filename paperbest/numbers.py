"""Exact fractions: tuples (top, bottom) without a common divisor, the bottom above 0."""

from math import gcd

from paperbest.errors import InvalidNumber, Refused


def is_whole(value):
    """Whether any value is an integer; True and False are none."""
    return isinstance(value, int) and not isinstance(value, bool)


def is_number(value):
    """Whether any value is an integer from 0 on."""
    return is_whole(value) and value >= 0


def fraction_of(top, bottom):
    """The quotient of two integers."""
    if bottom == 0:
        raise InvalidNumber("zero")
    shared = gcd(top, bottom)
    if bottom < 0:
        shared = -shared
    return (top // shared, bottom // shared)


def whole(number):
    """An integer as a fraction."""
    return (number, 1)


def is_fraction(value):
    """Whether any value is a fraction."""
    if not isinstance(value, tuple) or len(value) != 2:
        return False
    top, bottom = value
    if not is_whole(top) or not is_whole(bottom):
        return False
    return bottom > 0 and gcd(top, bottom) == 1


def added(one, other):
    """The sum of two fractions."""
    return fraction_of(one[0] * other[1] + other[0] * one[1], one[1] * other[1])


def taken(one, other):
    """The first fraction less the second one."""
    return fraction_of(one[0] * other[1] - other[0] * one[1], one[1] * other[1])


def timed(one, other):
    """The product of two fractions."""
    return fraction_of(one[0] * other[0], one[1] * other[1])


def parted(one, other):
    """The first fraction divided by the second one."""
    return fraction_of(one[0] * other[1], one[1] * other[0])


def is_less(one, other):
    """Whether the first fraction is below the second one."""
    return one[0] * other[1] < other[0] * one[1]


def least_of(some):
    """The least of a tuple of fractions."""
    if not some:
        raise Refused("none")
    least = some[0]
    for value in some:
        if is_less(value, least):
            least = value
    return least


def greatest_of(some):
    """The greatest of a tuple of fractions."""
    if not some:
        raise Refused("none")
    greatest = some[0]
    for value in some:
        if is_less(greatest, value):
            greatest = value
    return greatest


def floor_of(value):
    """The greatest integer not above a fraction."""
    return value[0] // value[1]


def ceiling_of(value):
    """The least integer not below a fraction."""
    return -(-value[0] // value[1])


def weighed(coefficients, point):
    """The sum of integers, each times the fraction at its place."""
    top, bottom = 0, 1
    for coefficient, value in zip(coefficients, point):
        if coefficient == 0:
            continue
        if value[1] != bottom:
            shared = gcd(bottom, value[1])
            top = top * (value[1] // shared)
            bottom = bottom * (value[1] // shared)
        top += coefficient * value[0] * (bottom // value[1])
    return fraction_of(top, bottom)
