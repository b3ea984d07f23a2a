"""Where in a picture something is seen, and where two pictures are unlike."""

from samepictures.blending import NOTHING
from samepictures.drawings import check_drawing
from samepictures.errors import InvalidNumber
from samepictures.exact import are_fractions, ascending, opposite, total
from samepictures.outlines import area_under, bound, measure, outline, trace
from samepictures.surveys import survey, unlike


def is_seen(value):
    """Return whether the value is a tuple of four fractions, and not nothing."""
    return are_fractions(value, 4) and value != NOTHING


def check_value(value):
    """Raise InvalidNumber if the value is not a tuple of four fractions, or is nothing."""
    if not is_seen(value):
        raise InvalidNumber("this is no value that can be seen")


def list_seen(looks):
    """Return the ascending list of all values but nothing among the looks."""
    return ascending([look for look in looks if look != NOTHING])


def check_both(drawing, other):
    """Raise InvalidDrawing if one of both is not a drawing."""
    check_drawing(drawing)
    check_drawing(other)


def values(drawing):
    """Return the ascending tuple of all values but nothing that the picture of the drawing shows."""
    check_drawing(drawing)
    _, (looks,) = survey([drawing])
    return tuple(list_seen(looks))


def where(drawing, value):
    """Return the region in which the picture of the drawing shows the value."""
    check_drawing(drawing)
    check_value(value)
    sweep, (looks,) = survey([drawing])
    return outline(sweep, sweep.stretches, [look == value for look in looks])


def covered(drawing):
    """Return the region in which the picture of the drawing shows something other than nothing."""
    check_drawing(drawing)
    sweep, (looks,) = survey([drawing])
    return outline(sweep, sweep.stretches, [look != NOTHING for look in looks])


def list_areas(sweep, looks):
    """Return the ascending list of the pairs of each value but nothing among the looks and its area."""
    shares = {look: [] for look in list_seen(looks)}
    shares[NOTHING] = []
    for start, end, left, right in trace(sweep.stretches, looks):
        share = area_under(sweep.point(start), sweep.point(end))
        shares[left].append(opposite(share))
        shares[right].append(share)
    return [(look, total(shares[look])) for look in list_seen(looks)]


def areas(drawing):
    """Return the ascending tuple of the pairs of each value that the picture shows and its area."""
    check_drawing(drawing)
    sweep, (looks,) = survey([drawing])
    return tuple(list_areas(sweep, looks))


def changed(drawing, other):
    """Return the region in which the pictures of two drawings are unlike."""
    check_both(drawing, other)
    return unlike(drawing, other)


def changed_area(drawing, other):
    """Return the area of the region in which the pictures of two drawings are unlike."""
    check_both(drawing, other)
    return measure(unlike(drawing, other))


def changed_box(drawing, other):
    """Return the box of the region in which the pictures of two drawings are unlike."""
    check_both(drawing, other)
    return bound(unlike(drawing, other))
