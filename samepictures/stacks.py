"""Stacks: layers with the numbers of their shapes and clips in the place of these.

Where a point lies inside of the shapes is told by a tuple of True and False, one for each number.
"""

from samepictures.blending import ALL, NOTHING, filled, laid, laying, weakened
from samepictures.exact import lowest, rest_of


def stack_layer(layer, numbers):
    """Return the layer with numbers in the place of shapes; shapes without a number get the next ones."""
    if layer[0] != "group":
        kind, shape, *rest = layer
        return (kind, numbers.setdefault(shape, len(numbers)), *rest)
    kind, layers, opacity, clip, matrix = layer
    clip_number = None if clip is None else numbers.setdefault(clip, len(numbers))
    return (kind, stack_up(layers, numbers), opacity, clip_number, matrix)


def stack_up(layers, numbers):
    """Return the stack of the layers; shapes without a number get the next ones."""
    return tuple([stack_layer(layer, numbers) for layer in layers])


def shown_by_group(group, inside):
    """Return the value that a group shows by itself."""
    _, layers, (top, bottom), clip, _ = group
    if clip is not None and not inside[clip]:
        return NOTHING
    return weakened(shown(layers, inside), lowest(top, bottom))


def effect_of(layer, inside):
    """Return the effect of a layer of a stack."""
    if layer[0] == "group":
        return laying(shown_by_group(layer, inside))
    if not inside[layer[1]]:
        return (NOTHING, ALL)
    if layer[0] == "fill":
        return laying(filled(layer[2], layer[3]))
    return (NOTHING, rest_of(layer[2]))


def shown(stack, inside):
    """Return the value that the stack shows, on nothing."""
    return laid([effect_of(layer, inside) for layer in stack])
