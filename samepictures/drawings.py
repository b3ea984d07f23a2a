"""What is a shape, a layer and a drawing."""

from samepictures.errors import InvalidDrawing
from samepictures.exact import are_whole

RULES = ("odd", "turns")
FARTHEST = 9
MOST_LAYERS = 4
MOST_POINTS = 60
DEEPEST = 2


def is_loop(value):
    """Return whether the value is a loop."""
    return (
        isinstance(value, tuple)
        and 3 <= len(value) <= 8
        and all([are_whole(pair, 2, -FARTHEST, FARTHEST) for pair in value])
    )


def is_shape(value):
    """Return whether the value is a shape."""
    if not isinstance(value, tuple) or len(value) != 2:
        return False
    rule, loops = value
    return (
        rule in RULES
        and isinstance(loops, tuple)
        and 1 <= len(loops) <= 3
        and all([is_loop(loop) for loop in loops])
    )


def is_colour(value):
    """Return whether the value is a colour."""
    return are_whole(value, 3, 0, 9)


def is_opacity(value):
    """Return whether the value is an opacity."""
    return are_whole(value, 2, 1, 6) and value[0] <= value[1]


def is_matrix(value):
    """Return whether the value is a matrix."""
    if not isinstance(value, tuple) or not are_whole(value[:4], 4, -2, 2):
        return False
    a, b, c, d = value[:4]
    return a * d != b * c and are_whole(value[4:], 2, -FARTHEST, FARTHEST)


def is_fill(value):
    """Return whether the tuple, whose first word is "fill", is a fill."""
    return len(value) == 4 and is_shape(value[1]) and is_colour(value[2]) and is_opacity(value[3])


def is_rub(value):
    """Return whether the tuple, whose first word is "rub", is a rub."""
    return len(value) == 3 and is_shape(value[1]) and is_opacity(value[2])


def is_group(value, deepest):
    """Return whether the tuple, whose first word is "group", is a group.

    Groups, this one included, lie at most that deep.
    """
    if len(value) != 5 or deepest == 0:
        return False
    _, layers, opacity, clip, matrix = value
    return (
        are_layers(layers, deepest - 1)
        and is_opacity(opacity)
        and (clip is None or is_shape(clip))
        and is_matrix(matrix)
    )


def is_nested_layer(value, deepest):
    """Return whether the value is a layer with groups at most that deep, however many points it has."""
    if not isinstance(value, tuple) or len(value) == 0:
        return False
    if value[0] == "fill":
        return is_fill(value)
    if value[0] == "rub":
        return is_rub(value)
    return value[0] == "group" and is_group(value, deepest)


def are_layers(value, deepest):
    """Return whether the value is a tuple of at most 4 layers with groups at most that deep."""
    return (
        isinstance(value, tuple)
        and len(value) <= MOST_LAYERS
        and all([is_nested_layer(layer, deepest) for layer in value])
    )


def list_shapes(layers):
    """Return the list of the shapes and clips of the layers, those within groups too."""
    shapes = []
    for layer in layers:
        if layer[0] != "group":
            shapes.append(layer[1])
            continue
        shapes.extend(list_shapes(layer[1]))
        if layer[3] is not None:
            shapes.append(layer[3])
    return shapes


def add_points(layers):
    """Return how many points the loops and clips of the layers have."""
    return sum([len(loop) for shape in list_shapes(layers) for loop in shape[1]])


def is_layer(value):
    """Return whether the value is a layer whose loops have at most 60 points."""
    return is_nested_layer(value, DEEPEST) and add_points((value,)) <= MOST_POINTS


def is_drawing(value):
    """Return whether the value is a drawing."""
    return are_layers(value, DEEPEST) and add_points(value) <= MOST_POINTS


def check_drawing(value):
    """Raise InvalidDrawing if the value is not a drawing."""
    if not is_drawing(value):
        raise InvalidDrawing("this is not a drawing")


def count_points(drawing):
    """Return how many points the loops and clips of the drawing have."""
    check_drawing(drawing)
    return add_points(drawing)
