"""The form of a picture, what the picture shows at a point, and how it differs from another one."""

from samepictures.drawings import check_drawing
from samepictures.errors import OnEdge
from samepictures.lines import spot_of
from samepictures.outlines import draw
from samepictures.seeing import check_point
from samepictures.surveys import survey, unlike
from samepictures.uprights import is_on, tell_apart, value_at


def draw_form(drawing):
    """Return the form of a drawing that has been checked."""
    sweep, (looks,) = survey([drawing])
    return draw(sweep, looks)


def form(drawing):
    """Return all edges at which the picture of the drawing changes, in sequence."""
    check_drawing(drawing)
    return draw_form(drawing)


def seen(drawing, point):
    """Return the value that the picture of the drawing shows at the point."""
    check_drawing(drawing)
    check_point(point)
    edges = draw_form(drawing)
    spot = spot_of(point)
    if any([is_on(edge, spot) for edge in edges]):
        raise OnEdge("the picture changes at this point")
    return value_at(edges, point)


def same(drawing, other):
    """Return whether both drawings paint the same picture."""
    check_drawing(drawing)
    check_drawing(other)
    return draw_form(drawing) == draw_form(other)


def is_blank(drawing):
    """Return whether the drawing shows nothing anywhere."""
    check_drawing(drawing)
    return draw_form(drawing) == ()


def parting(drawing, other):
    """Return a point at which the pictures of two drawings are unlike, or None if there is none."""
    check_drawing(drawing)
    check_drawing(other)
    differing = unlike(drawing, other)
    if not differing:
        return None
    # No edge of this region begins further to the left than the first one, and none to the left of an unlike point.
    first = differing[0][0][0]
    return tell_apart(draw_form(drawing), draw_form(other), first)
