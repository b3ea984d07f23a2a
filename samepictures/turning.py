"""Forms that are turned, mirrored, enlarged and moved: the edges of pictures that are led so."""

from samepictures.exact import ascending, plus, times
from samepictures.lines import is_ahead, spot_of

# Each turn is told by whether it exchanges x and y, and by the signs that x and y get then.
TURNS = (
    (False, 1, 1),
    (True, -1, 1),
    (False, -1, -1),
    (True, 1, -1),
    (False, -1, 1),
    (True, -1, -1),
    (False, 1, -1),
    (True, 1, 1),
)
FIRST_MIRRORED = 4
DIAGONAL = 7


def turn_point(point, turn):
    """Return the point to which the turn leads a point."""
    is_exchanged, x_sign, y_sign = TURNS[turn]
    (x_top, x_bottom), (y_top, y_bottom) = point[::-1] if is_exchanged else point
    return ((x_sign * x_top, x_bottom), (y_sign * y_top, y_bottom))


def turn_edge(edge, turn):
    """Return the edge, led by the turn."""
    start, end = [turn_point(point, turn) for point in edge[:2]]
    left, right = edge[2:]
    if turn >= FIRST_MIRRORED:
        left, right = right, left
    if is_ahead(spot_of(end), spot_of(start)):
        return (end, start, right, left)
    return (start, end, left, right)


def turn_form(edges, turn):
    """Return the form with these edges, led by the turn."""
    turned = {}
    for edge in edges:
        start, end, left, right = turn_edge(edge, turn)
        fractions = (*start, *end)
        turned[fractions] = (start, end, left, right)
    return tuple([turned[row] for row in ascending(list(turned))])


def put_point(point, factor, shift):
    """Return the point, multiplied by the factor and then moved by the shift."""
    return tuple([plus(times(number, factor), by) for number, by in zip(point, shift)])


def put_form(edges, factor, shift):
    """Return the edges with all points multiplied by the factor and then moved: a form, if the factor is above 0."""
    return tuple([
        (put_point(start, factor, shift), put_point(end, factor, shift), left, right)
        for start, end, left, right in edges
    ])
