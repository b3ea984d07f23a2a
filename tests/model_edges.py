"""Edges worked out in another way: each line by itself is cut where anything meets it.

What lies beside each of the pieces is asked for at points so near to their middles that nothing
lies between; nothing is known here about sweeps or cells.
"""

from fractions import Fraction

from tests.model import show

NEAR = Fraction(1, 10 ** 25)


def lead(matrix, point):
    a, b, c, d, e, f = matrix
    x, y = point
    return (a * x + c * y + e, b * x + d * y + f)


def loop_edges(shape, matrices):
    """Return the edges of the loops, led by one matrix after the other, each from its lesser end."""
    edges = []
    for loop in shape[1]:
        for ends in zip(loop, loop[1:] + loop[:1]):
            for matrix in matrices:
                ends = [lead(matrix, end) for end in ends]
            if ends[0] != ends[1]:
                edges.append(tuple(sorted([tuple(map(Fraction, end)) for end in ends])))
    return edges


def all_edges(layers, matrices=()):
    """Return the edges of all loops of the layers."""
    edges = []
    for layer in layers:
        if layer[0] != "group":
            edges += loop_edges(layer[1], matrices)
            continue
        edges += all_edges(layer[1], (layer[4], *matrices))
        if layer[3] is not None:
            edges += loop_edges(layer[3], (layer[4], *matrices))
    return edges


def line_of(start, end):
    """Return (a, b, c) with a * x + b * y + c greater than 0 on the left, and b, or else -a, equal to 1."""
    a, b = start[1] - end[1], end[0] - start[0]
    by = b or -a
    return (a / by, b / by, -(a * start[0] + b * start[1]) / by)


def cut(edges):
    """Return the triples of a line and two neighbouring points on it between which there is an edge."""
    lines = {}
    for edge in set(edges):
        lines.setdefault(line_of(*edge), []).append(edge)
    found = []
    for (a, b, c), own in lines.items():
        points = {point for edge in own for point in edge}
        for start, end in edges:
            other_a, other_b, other_c = line_of(start, end)
            span = a * other_b - other_a * b
            if span:
                point = ((b * other_c - other_b * c) / span, (c * other_a - other_c * a) / span)
                if start <= point <= end:
                    points.add(point)
        points = sorted(points)
        for low, high in zip(points, points[1:]):
            if any(start <= low and high <= end for start, end in own):
                found.append(((a, b, c), low, high))
    return found


def plain(number):
    """Return the fraction as a tuple."""
    return (number.numerator, number.denominator)


def trace(edges, look):
    """Return the tuples (start, end, left, right) along the edges between unlike looks, as long as can be."""
    rows = []
    for line, low, high in cut(edges):
        x, y = (low[0] + high[0]) / 2, (low[1] + high[1]) / 2
        left = look(x + NEAR * line[0], y + NEAR * line[1])
        right = look(x - NEAR * line[0], y - NEAR * line[1])
        if left == right:
            continue
        if rows and rows[-1][1:] == (low, left, right, line):
            low = rows.pop()[0]
        rows.append((low, high, left, right, line))
    rows = sorted(row[:4] for row in rows)
    return [(tuple(map(plain, start)), tuple(map(plain, end)), left, right) for start, end, left, right in rows]


def model_form(drawing):
    """Return the form of the drawing."""
    return tuple(trace(all_edges(drawing), lambda x, y: tuple(map(plain, show(drawing, x, y)))))
