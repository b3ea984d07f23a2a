"""Spots and lines in integers.

A spot is a point as a tuple (x, y, scale): it lies at x / scale and y / scale, the scale is greater
than 0, and the three have no common divisor, so that each point has one spot. A line is a tuple
(a, b, c): a * x + b * y + c is greater than 0 on its left, 0 on it and less on its right, seen by
somebody who goes on it to the right, or upward if it is upright. Each line has one such tuple, too.
"""

from math import gcd

from samepictures.exact import lowest


def make_spot(x, y, scale):
    """Return the spot at x / scale and y / scale; the scale is not 0."""
    divisor = gcd(x, y, scale)
    if scale < 0:
        divisor = -divisor
    return (x // divisor, y // divisor, scale // divisor)


def spot_of(point):
    """Return the spot of a point."""
    (x_top, x_bottom), (y_top, y_bottom) = point
    return make_spot(x_top * y_bottom, y_top * x_bottom, x_bottom * y_bottom)


def point_of(spot):
    """Return the point of a spot."""
    x, y, scale = spot
    return (lowest(x, scale), lowest(y, scale))


def is_ahead(spot, other):
    """Return whether the spot is ahead of the other one, by x, then by y."""
    x, y, scale = spot
    other_x, other_y, other_scale = other
    if x * other_scale != other_x * scale:
        return x * other_scale < other_x * scale
    return y * other_scale < other_y * scale


def line_through(start, end):
    """Return the line through two spots; the start is ahead of the end."""
    x, y, scale = start
    end_x, end_y, end_scale = end
    a = y * end_scale - end_y * scale
    b = end_x * scale - x * end_scale
    c = x * end_y - end_x * y
    divisor = gcd(a, b, c)
    return (a // divisor, b // divisor, c // divisor)


def height_over(line, spot):
    """Return a number greater than 0 if the spot is on the left of the line, 0 on it, else less."""
    return line[0] * spot[0] + line[1] * spot[1] + line[2] * spot[2]


def meeting(line, other):
    """Return the spot at which two lines meet that are not parallel."""
    a, b, c = line
    other_a, other_b, other_c = other
    return make_spot(b * other_c - other_b * c, c * other_a - other_c * a, a * other_b - other_a * b)
