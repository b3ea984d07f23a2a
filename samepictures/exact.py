"""Integers, fractions and points, and how fractions are added and multiplied."""

from math import gcd

LIMIT = 10 ** 30


def is_whole(value):
    """Return whether the value is an integer; True and False are none."""
    return isinstance(value, int) and not isinstance(value, bool)


def are_whole(value, many, low, high):
    """Return whether the value is a tuple of so many integers from low to high."""
    return (
        isinstance(value, tuple)
        and len(value) == many
        and all([is_whole(number) and low <= number <= high for number in value])
    )


def is_fraction(value):
    """Return whether the value is a fraction within the bounds of arguments."""
    return are_whole(value, 2, -LIMIT, LIMIT) and value[1] > 0 and gcd(value[0], value[1]) == 1


def are_fractions(value, many):
    """Return whether the value is a tuple of so many fractions within the bounds of arguments."""
    return isinstance(value, tuple) and len(value) == many and all([is_fraction(number) for number in value])


def is_point(value):
    """Return whether the value is a point."""
    return are_fractions(value, 2)


def lowest(top, bottom):
    """Return top / bottom as a fraction in lowest terms; the bottom is greater than 0."""
    divisor = gcd(top, bottom)
    return (top // divisor, bottom // divisor)


def plus(one, other):
    """Return the sum of two fractions."""
    return lowest(one[0] * other[1] + other[0] * one[1], one[1] * other[1])


def times(one, other):
    """Return the product of two fractions."""
    return lowest(one[0] * other[0], one[1] * other[1])


def rest_of(fraction):
    """Return 1 minus the fraction."""
    return lowest(fraction[1] - fraction[0], fraction[1])


def opposite(fraction):
    """Return 0 minus the fraction."""
    return (-fraction[0], fraction[1])


def minus(one, other):
    """Return the one fraction minus the other one."""
    return plus(one, opposite(other))


def quotient(one, other):
    """Return the one fraction, divided by the other one, which is greater than 0."""
    return lowest(one[0] * other[1], one[1] * other[0])


def middle(one, other):
    """Return the fraction in the middle of two."""
    return lowest(one[0] * other[1] + other[0] * one[1], 2 * one[1] * other[1])


def is_less(one, other):
    """Return whether the one fraction is less than the other one."""
    return one[0] * other[1] < other[0] * one[1]


def total(fractions):
    """Return the sum of the fractions.

    Neighbours are added first, so that few of the sums have long bottoms.
    """
    while len(fractions) > 1:
        pairs = [plus(fractions[k - 1], fractions[k]) for k in range(1, len(fractions), 2)]
        fractions = pairs + fractions[2 * len(pairs):]
    return fractions[0] if fractions else (0, 1)


def scale_for(bottom):
    """Return a number so great that unlike fractions with bottoms up to this one have unlike marks."""
    return bottom * bottom + 1


def mark(fraction, scale):
    """Return an integer for the fraction; the marks at one scale are in the sequence of the fractions."""
    return fraction[0] * scale // fraction[1]


def ascending(rows):
    """Return the list of the rows, tuples of fractions, in their sequence and without duplicates."""
    bottoms = [fraction[1] for row in rows for fraction in row]
    scale = scale_for(max(bottoms, default=1))
    marked = {tuple([mark(fraction, scale) for fraction in row]): row for row in rows}
    return [marked[marks] for marks in sorted(marked)]


def least(fractions):
    """Return the least one of the fractions."""
    return ascending([(fraction,) for fraction in fractions])[0][0]
