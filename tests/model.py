"""What a drawing paints, worked out in another way: the point is led back, the loops stay."""

from fractions import Fraction


def lead_back(matrix, x, y):
    """Return the point that the matrix leads to (x, y)."""
    a, b, c, d, e, f = matrix
    span = a * d - b * c
    return (d * (x - e) - c * (y - f)) / Fraction(span), (a * (y - f) - b * (x - e)) / Fraction(span)


def is_on(start, end, x, y):
    """Return whether the point is start + part * (end - start) with a part from 0 to 1."""
    across, up = end[0] - start[0], end[1] - start[1]
    if across == 0 and up == 0:
        return False
    part = (x - start[0]) / Fraction(across) if across else (y - start[1]) / Fraction(up)
    return 0 <= part <= 1 and (x, y) == (start[0] + part * across, start[1] + part * up)


def turns_of(loop, x, y):
    """Return the turns, counted where edges cross the line that goes up from the point."""
    turns = 0
    for start, end in zip(loop, loop[1:] + loop[:1]):
        if (start[0] > x) != (end[0] > x):
            height = start[1] + (x - start[0]) * Fraction(end[1] - start[1], end[0] - start[0])
            if height > y:
                turns += 1 if start[0] > end[0] else -1
    return turns


def is_in(shape, x, y):
    rule, loops = shape
    turns = sum(turns_of(loop, x, y) for loop in loops)
    return turns % 2 != 0 if rule == "odd" else turns != 0


def meets(shape, x, y):
    return any(is_on(start, end, x, y) for loop in shape[1] for start, end in zip(loop, loop[1:] + loop[:1]))


def is_met(layers, x, y):
    """Return whether the point lies on an edge of a loop of the layers."""
    for layer in layers:
        if layer[0] != "group":
            if meets(layer[1], x, y):
                return True
            continue
        there = lead_back(layer[4], x, y)
        if is_met(layer[1], *there) or (layer[3] is not None and meets(layer[3], *there)):
            return True
    return False


def show(layers, x, y):
    """Return the opacity and the three parts as a list of numbers."""
    below = [Fraction(0)] * 4
    for layer in layers:
        upper = [Fraction(0)] * 4
        if layer[0] == "fill":
            if is_in(layer[1], x, y):
                upper = [Fraction(*layer[3]) * number for number in (1, *layer[2])]
        elif layer[0] == "rub":
            if is_in(layer[1], x, y):
                below = [part - part * Fraction(*layer[2]) for part in below]
        else:
            there = lead_back(layer[4], x, y)
            if layer[3] is None or is_in(layer[3], *there):
                upper = [part * Fraction(*layer[2]) for part in show(layer[1], *there)]
        below = [up + part - part * upper[0] for up, part in zip(upper, below)]
    return below


def model(drawing, point):
    """Return the value at the point, or None if it lies on an edge."""
    x, y = Fraction(*point[0]), Fraction(*point[1])
    if is_met(drawing, x, y):
        return None
    return tuple((part.numerator, part.denominator) for part in show(drawing, x, y))
