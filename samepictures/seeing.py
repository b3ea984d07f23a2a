"""What the layers of a drawing show at a point."""

from samepictures.blending import NOTHING, filled, laid_over, weakened
from samepictures.drawings import check_drawing, list_shapes
from samepictures.errors import InvalidPoint, OnEdge
from samepictures.exact import is_point, lowest, rest_of
from samepictures.loops import is_inside, is_on_shape, spot_of
from samepictures.placing import SAME_PLACE, place_layers


def shown_by_group(group, spot):
    """Return the value that a group shows by itself."""
    _, layers, (top, bottom), clip, _ = group
    if clip is not None and not is_inside(clip, spot):
        return NOTHING
    return weakened(shown(layers, spot), lowest(top, bottom))


def laid_by(layer, below, spot):
    """Return what is seen when the layer has been laid over the value below it."""
    if layer[0] == "group":
        return laid_over(shown_by_group(layer, spot), below)
    if not is_inside(layer[1], spot):
        return below
    if layer[0] == "fill":
        return laid_over(filled(layer[2], layer[3]), below)
    return weakened(below, rest_of(layer[2]))


def shown(layers, spot):
    """Return the value that the layers show, on nothing, at a spot that lies on no edge of a loop.

    The layers are placed: their matrices lead nothing any more.
    """
    below = NOTHING
    for layer in layers:
        below = laid_by(layer, below, spot)
    return below


def painted(drawing, point):
    """Return the value that the layers of the drawing show at the point."""
    check_drawing(drawing)
    if not is_point(point):
        raise InvalidPoint("this is not a point")
    layers = place_layers(drawing, SAME_PLACE)
    spot = spot_of(point)
    if any([is_on_shape(shape, spot) for shape in list_shapes(layers)]):
        raise OnEdge("the point lies on an edge of a loop")
    return shown(layers, spot)
