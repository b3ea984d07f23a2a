"""Matrices, and layers with their loops put where the matrices lead them."""

SAME_PLACE = (1, 0, 0, 1, 0, 0)


def lead(matrix, pair):
    """Return the point to which the matrix leads a point."""
    a, b, c, d, e, f = matrix
    x, y = pair
    return (a * x + c * y + e, b * x + d * y + f)


def follow(outer, inner):
    """Return the matrix that leads points as the inner one does and then as the outer one does."""
    a, b, c, d, _, _ = outer
    inner_a, inner_b, inner_c, inner_d, inner_e, inner_f = inner
    moved = lead(outer, (inner_e, inner_f))
    return (
        a * inner_a + c * inner_b,
        b * inner_a + d * inner_b,
        a * inner_c + c * inner_d,
        b * inner_c + d * inner_d,
        *moved,
    )


def place_shape(shape, matrix):
    """Return the shape, led by the matrix."""
    rule, loops = shape
    return (rule, tuple([tuple([lead(matrix, pair) for pair in loop]) for loop in loops]))


def place_group(group, matrix):
    """Return the group with its layers and its clip where its own matrix and then this one lead them."""
    _, layers, opacity, clip, own = group
    whole = follow(matrix, own)
    placed_clip = None if clip is None else place_shape(clip, whole)
    return ("group", place_layers(layers, whole), opacity, placed_clip, SAME_PLACE)


def place_layer(layer, matrix):
    """Return the layer, led by the matrix; the groups in it lead nothing any more."""
    if layer[0] == "group":
        return place_group(layer, matrix)
    kind, shape, *rest = layer
    return (kind, place_shape(shape, matrix), *rest)


def place_layers(layers, matrix):
    """Return the layers, led by the matrix; the groups in them lead nothing any more."""
    return tuple([place_layer(layer, matrix) for layer in layers])
