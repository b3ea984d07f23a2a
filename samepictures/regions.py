"""Regions: what is united, common, taken away, and how regions are measured and divided."""

from samepictures.drawings import is_shape
from samepictures.errors import InvalidRegion, InvalidShape
from samepictures.exact import is_point
from samepictures.faces import count_outside, divide
from samepictures.lines import is_ahead, spot_of
from samepictures.outlines import bound, list_sides, measure, outline, sweep_regions
from samepictures.surveys import insides, sweep_shapes
from samepictures.sweeping import Sweep

MOST_EDGES = 5000


def is_side(value):
    """Return whether the value could be an edge of a region."""
    if not isinstance(value, tuple) or len(value) != 3:
        return False
    start, end, left = value
    if not is_point(start) or not is_point(end) or not isinstance(left, bool):
        return False
    return is_ahead(spot_of(start), spot_of(end))


def are_closed(sides):
    """Return whether an even number of the edges meet at each point."""
    ends = {}
    for start, end, _ in sides:
        ends[start] = ends.get(start, 0) + 1
        ends[end] = ends.get(end, 0) + 1
    return all([many % 2 == 0 for many in ends.values()])


def are_outline(sides):
    """Return whether the edges, which are closed, are just those of the region that they bound."""
    sweep = Sweep(list_sides(sides, 0), [True])
    # Where an even number of edges go across one another, the inside changes its side: all of them end there.
    sweep.run(False)
    if sweep.is_crossed:
        return False
    return outline(sweep, sweep.stretches, [cell == (1,) for cell in sweep.cells]) == sides


def is_region(value):
    """Return whether the value is a region."""
    return (
        isinstance(value, tuple)
        and len(value) <= MOST_EDGES
        and all([is_side(side) for side in value])
        and are_closed(value)
        and are_outline(value)
    )


def check_region(value):
    """Raise InvalidRegion if the value is not a region."""
    if not is_region(value):
        raise InvalidRegion("this is not a region")


def region(shape):
    """Return the region of the points inside the shape."""
    if not is_shape(shape):
        raise InvalidShape("this is not a shape")
    sweep = sweep_shapes([shape])
    return outline(sweep, sweep.stretches, [inside == (True,) for inside in insides(sweep)])


def combine(one, other, chosen):
    """Return the region of the points of which it is chosen whether they are inside the one and the other one.

    The chosen are pairs of 0, for outside, or 1, for inside.
    """
    check_region(one)
    check_region(other)
    sweep = sweep_regions([one, other])
    return outline(sweep, sweep.stretches, [cell in chosen for cell in sweep.cells])


def united(one, other):
    """Return the region of the points inside one of both or both."""
    return combine(one, other, ((0, 1), (1, 0), (1, 1)))


def common(one, other):
    """Return the region of the points inside both."""
    return combine(one, other, ((1, 1),))


def without(one, other):
    """Return the region of the points inside the one and not inside the other one."""
    return combine(one, other, ((1, 0),))


def either(one, other):
    """Return the region of the points inside just one of both."""
    return combine(one, other, ((0, 1), (1, 0)))


def is_within(one, other):
    """Return whether all points inside the one are inside the other one, but for points on lines."""
    return without(one, other) == ()


def area(some):
    """Return the area of the region."""
    check_region(some)
    return measure(some)


def box(some):
    """Return the least x, the least y, the greatest x and the greatest y of the edges of the region."""
    check_region(some)
    return bound(some)


def parts(some):
    """Return the tuple of the parts of the region, each of which hangs together."""
    check_region(some)
    return divide(sweep_regions([some]))


def count_holes(some):
    """Return how many parts, but for the one without a bound, the points outside of the region have."""
    check_region(some)
    return count_outside(sweep_regions([some])) - 1
