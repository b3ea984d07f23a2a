"""Edges drawn along the stretches of a sweep, and outlines of regions with their areas and boxes.

Looks are what is seen in the cells of a sweep, told by a list with one item for each cell.
"""

from samepictures.errors import Blank
from samepictures.exact import ascending, minus, opposite, plus, quotient, times, total
from samepictures.lines import spot_of
from samepictures.sweeping import sweep_over


def list_rows(stretches, looks):
    """Return the edges between unlike looks, as long as can be, with the numbers of their lines ahead."""
    rows = []
    for line, start, end, above, below in sorted(stretches):
        left, right = looks[above], looks[below]
        if left == right:
            continue
        begin = start
        if rows and rows[-1][0] == line and rows[-1][2] == start and rows[-1][3:] == (left, right):
            begin = rows.pop()[1]
        rows.append((line, begin, end, left, right))
    return rows


def trace(stretches, looks):
    """Return the edges between unlike looks, as long as can be, in sequence.

    An edge is a tuple (start, end, left, right) of the numbers of two places and two looks.
    """
    return sorted([row[1:] for row in list_rows(stretches, looks)])


def draw(sweep, looks):
    """Return the form of a picture that has these looks."""
    edges = trace(sweep.stretches, looks)
    return tuple([(sweep.point(start), sweep.point(end), left, right) for start, end, left, right in edges])


def outline(sweep, stretches, looks):
    """Return the region, or the part with these stretches alone, in which the looks are True."""
    edges = trace(stretches, looks)
    return tuple([(sweep.point(start), sweep.point(end), left) for start, end, left, _ in edges])


def list_sides(some, source):
    """Return the segments that bound a region, which has this number as a source."""
    return [(spot_of(start), spot_of(end), source, 1) for start, end, _ in some]


def sweep_regions(regions):
    """Return the sweep over the regions; the points inside of one are turned around once by its number."""
    segments = [side for k in range(len(regions)) for side in list_sides(regions[k], k)]
    return sweep_over(segments, [True] * len(regions))


def area_under(start, end):
    """Return the area between the line with y = 0 and an edge above it, less than 0 if the edge is below it."""
    return quotient(times(minus(end[0], start[0]), plus(start[1], end[1])), (2, 1))


def measure(some):
    """Return the area of a region."""
    areas = [area_under(start, end) for start, end, _ in some]
    return total([opposite(each) if left else each for each, (_, _, left) in zip(areas, some)])


def bound(some):
    """Return the box of a region, or raise Blank if it is empty."""
    if not some:
        raise Blank("an empty region has no box")
    ends = [point for start, end, _ in some for point in (start, end)]
    across = ascending([(x,) for x, _ in ends])
    up = ascending([(y,) for _, y in ends])
    return (across[0][0], up[0][0], across[-1][0], up[-1][0])
