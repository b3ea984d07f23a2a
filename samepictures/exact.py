"""Integers, fractions and points, and how fractions are added and multiplied."""

from math import gcd

LIMIT = 10 ** 30


def is_whole(value):
    """Return whether the value is an integer; True and False are none."""
    return isinstance(value, int) and not isinstance(value, bool)


def are_whole(value, many, low, high):
    """Return whether the value is a tuple of so many integers from low to high."""
    return (
        isinstance(value, tuple)
        and len(value) == many
        and all([is_whole(number) and low <= number <= high for number in value])
    )


def is_fraction(value):
    """Return whether the value is a fraction within the bounds of arguments."""
    return are_whole(value, 2, -LIMIT, LIMIT) and value[1] > 0 and gcd(value[0], value[1]) == 1


def is_point(value):
    """Return whether the value is a point."""
    return isinstance(value, tuple) and len(value) == 2 and all([is_fraction(number) for number in value])


def lowest(top, bottom):
    """Return top / bottom as a fraction in lowest terms; the bottom is greater than 0."""
    divisor = gcd(top, bottom)
    return (top // divisor, bottom // divisor)


def plus(one, other):
    """Return the sum of two fractions."""
    return lowest(one[0] * other[1] + other[0] * one[1], one[1] * other[1])


def times(one, other):
    """Return the product of two fractions."""
    return lowest(one[0] * other[0], one[1] * other[1])


def rest_of(fraction):
    """Return 1 minus the fraction."""
    return lowest(fraction[1] - fraction[0], fraction[1])
