"""What the layers of a drawing show at a point."""

from samepictures.drawings import check_drawing
from samepictures.errors import InvalidPoint, OnEdge
from samepictures.exact import is_point
from samepictures.lines import spot_of
from samepictures.loops import is_inside, is_on_shape
from samepictures.placing import SAME_PLACE, place_layers
from samepictures.stacks import shown, stack_up


def check_point(value):
    """Raise InvalidPoint if the value is not a point."""
    if not is_point(value):
        raise InvalidPoint("this is not a point")


def painted(drawing, point):
    """Return the value that the layers of the drawing show at the point."""
    check_drawing(drawing)
    check_point(point)
    shapes = {}
    stack = stack_up(place_layers(drawing, SAME_PLACE), shapes)
    spot = spot_of(point)
    if any([is_on_shape(shape, spot) for shape in shapes]):
        raise OnEdge("the point lies on an edge of a loop")
    return shown(stack, [is_inside(shape, spot) for shape in shapes])
