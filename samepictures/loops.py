"""Loops and shapes around spots: what lies on an edge, what lies inside.

The points of loops are pairs of integers here, so that spots are met without fractions.
"""


def edges_of(loop):
    """Return the list of the edges of a loop, as pairs of a start and an end.

    An edge between equal points is none.
    """
    pairs = [(loop[k - 1], loop[k]) for k in range(len(loop))]
    return [(start, end) for start, end in pairs if start != end]


def side_of(edge, spot):
    """Return a number greater than 0 if the spot is on the left of the edge, 0 on its line, else less."""
    (start_x, start_y), (end_x, end_y) = edge
    x, y, scale = spot
    return (end_x - start_x) * (y - start_y * scale) - (end_y - start_y) * (x - start_x * scale)


def is_between(one, other, number):
    """Return whether the number lies between the two others, or is one of them."""
    return min(one, other) <= number <= max(one, other)


def is_on_edge(edge, spot):
    """Return whether the spot lies on the edge, its ends included."""
    (start_x, start_y), (end_x, end_y) = edge
    x, y, scale = spot
    return (
        side_of(edge, spot) == 0
        and is_between(start_x * scale, end_x * scale, x)
        and is_between(start_y * scale, end_y * scale, y)
    )


def is_on_shape(shape, spot):
    """Return whether the spot lies on an edge of a loop of the shape."""
    _, loops = shape
    return any([is_on_edge(edge, spot) for loop in loops for edge in edges_of(loop)])


def count_turns(loop, spot):
    """Return how often the loop turns round the spot counterclockwise; the spot lies on no edge.

    Edges are counted where they cross the line from the spot to the right. An edge has its lower
    end, but not its upper one, so that a corner on that line counts once or not at all.
    """
    _, y, scale = spot
    turns = 0
    for start, end in edges_of(loop):
        side = side_of((start, end), spot)
        if start[1] * scale <= y < end[1] * scale and side > 0:
            turns += 1
        elif end[1] * scale <= y < start[1] * scale and side < 0:
            turns -= 1
    return turns


def is_inside(shape, spot):
    """Return whether the spot, which lies on no edge, is inside the shape."""
    rule, loops = shape
    turns = sum([count_turns(loop, spot) for loop in loops])
    if rule == "odd":
        return turns % 2 == 1
    return turns != 0
