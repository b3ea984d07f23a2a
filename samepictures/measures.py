"""What is seen in a box on the whole, and along a level line."""

from samepictures.blending import NOTHING, weakened
from samepictures.changes import list_areas
from samepictures.drawings import check_drawing
from samepictures.errors import InvalidBox, InvalidNumber, OnEdge
from samepictures.exact import are_fractions, ascending, is_fraction, is_less, minus, quotient, times, total
from samepictures.forms import draw_form
from samepictures.lines import spot_of
from samepictures.pieces import segment_between
from samepictures.placing import SAME_PLACE, place_layers
from samepictures.stacks import stack_up
from samepictures.surveys import insides, list_looks, list_odd, list_segments
from samepictures.sweeping import sweep_over
from samepictures.turning import DIAGONAL, turn_form
from samepictures.uprights import course, goes_on


def check_box(value):
    """Raise InvalidBox if the value is not a box."""
    if not are_fractions(value, 4) or not is_less(value[0], value[2]) or not is_less(value[1], value[3]):
        raise InvalidBox("this is not a box")


def box_segments(box, source):
    """Return the segments of the box, which has this number as a source."""
    low_x, low_y, high_x, high_y = box
    points = ((low_x, low_y), (high_x, low_y), (high_x, high_y), (low_x, high_y))
    spots = [spot_of(point) for point in points]
    return [segment_between(spots[k - 1], spots[k], source) for k in range(4)]


def survey_box(drawing, box):
    """Return a sweep and the list of its looks; outside of the box nothing is seen."""
    shapes = {}
    stack = stack_up(place_layers(drawing, SAME_PLACE), shapes)
    segments = list_segments(shapes) + box_segments(box, len(shapes))
    sweep = sweep_over(segments, [*list_odd(shapes), True])
    cells = insides(sweep)
    looks = list_looks(stack, cells)
    return sweep, [look if inside[-1] else NOTHING for look, inside in zip(looks, cells)]


def mean(drawing, box):
    """Return the mean of the values in the box, part by part, weighted by area."""
    check_drawing(drawing)
    check_box(box)
    low_x, low_y, high_x, high_y = box
    whole = times(minus(high_x, low_x), minus(high_y, low_y))
    sweep, looks = survey_box(drawing, box)
    shares = [weakened(value, area) for value, area in list_areas(sweep, looks)]
    return tuple([quotient(total([share[part] for share in shares]), whole) for part in range(4)])


def check_level(value):
    """Raise InvalidNumber if the value is not a fraction."""
    if not is_fraction(value):
        raise InvalidNumber("this is not a fraction")


def list_places(edges, x):
    """Return the ascending list of the heights at which edges meet the upright line at x, and the values above them.

    No edge begins, ends or lies on this line.
    """
    lefts = {course(edge, x): edge[2] for edge in edges if goes_on(edge, x)}
    # Of edges that cross on the line, the steepest one is the last, and the line goes on above it.
    above = {each[0]: lefts[each] for each in ascending(list(lefts))}
    return list(above), list(above.values())


def along(drawing, level):
    """Return the tuple of the stretches of the level line in which something other than nothing is seen."""
    check_drawing(drawing)
    check_level(level)
    edges = turn_form(draw_form(drawing), DIAGONAL)
    if any([level in (start[0], end[0]) for start, end, _, _ in edges]):
        raise OnEdge("an edge begins or ends on the line")
    places, values = list_places(edges, level)
    return tuple([row for row in zip(places[:-1], places[1:], values[:-1]) if row[2] != NOTHING])
