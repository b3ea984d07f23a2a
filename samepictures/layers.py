"""Layers that can be left out, exchanged or put otherwise without a change of the picture."""

from itertools import permutations

from samepictures.blending import laid
from samepictures.drawings import check_drawing
from samepictures.errors import InvalidIndex
from samepictures.exact import is_whole
from samepictures.placing import SAME_PLACE, place_layers
from samepictures.stacks import effect_of, shown, stack_up
from samepictures.surveys import insides, sweep_shapes


def stack_and_cells(drawing):
    """Return the stack of the drawing, and the list of the insides of shapes that there are in its cells."""
    shapes = {}
    stack = stack_up(place_layers(drawing, SAME_PLACE), shapes)
    cells = {inside: True for inside in insides(sweep_shapes(list(shapes)))}
    return stack, list(cells)


def list_effects(drawing):
    """Return the list of the pairs of effects and a value.

    The effects are those that the layers have together in a cell, the value is what they show there.
    """
    stack, cells = stack_and_cells(drawing)
    rows = {tuple([effect_of(layer, inside) for layer in stack]): True for inside in cells}
    return [(effects, laid(effects)) for effects in rows]


def is_kept(rows, order):
    """Return whether the picture stays if these layers alone are laid in this order."""
    for effects, value in rows:
        if laid([effects[number] for number in order]) != value:
            return False
    return True


def leave_out(order, number):
    """Return the list of the numbers without this one."""
    return [each for each in order if each != number]


def exchange_next(order, number):
    """Return the list of the numbers in which the one at this place and the next one are exchanged."""
    return [*order[:number], order[number + 1], order[number], *order[number + 2:]]


def needless(drawing):
    """Return the ascending tuple of the numbers of the layers that can be left out, each by itself."""
    check_drawing(drawing)
    rows = list_effects(drawing)
    order = list(range(len(drawing)))
    return tuple([number for number in order if is_kept(rows, leave_out(order, number))])


def thinned(drawing):
    """Return the drawing without needless layers, of which the lower ones are left out first."""
    check_drawing(drawing)
    rows = list_effects(drawing)
    staying = list(range(len(drawing)))
    for number in range(len(drawing)):
        fewer = leave_out(staying, number)
        if is_kept(rows, fewer):
            staying = fewer
    return tuple([drawing[number] for number in staying])


def exchangeable(drawing):
    """Return the ascending tuple of the numbers of the layers that can be exchanged with the next one."""
    check_drawing(drawing)
    rows = list_effects(drawing)
    order = list(range(len(drawing)))
    return tuple([number for number in order[:-1] if is_kept(rows, exchange_next(order, number))])


def sequences(drawing):
    """Return the ascending tuple of all sequences of the numbers of the layers that paint the same picture."""
    check_drawing(drawing)
    rows = list_effects(drawing)
    numbers = list(range(len(drawing)))
    return tuple([order for order in permutations(numbers) if is_kept(rows, order)])


def check_group(drawing, index):
    """Raise InvalidDrawing or InvalidIndex if it is not the number of a group of a drawing."""
    check_drawing(drawing)
    if not is_whole(index) or not 0 <= index < len(drawing) or drawing[index][0] != "group":
        raise InvalidIndex("this is not the number of a group")


def stays_with(stack, cells, index, layers):
    """Return whether the stack shows the same with these layers in the place of one of its layers."""
    changed = (*stack[:index], *layers, *stack[index + 1:])
    return all([shown(changed, inside) == shown(stack, inside) for inside in cells])


def can_dissolve(drawing, index):
    """Return whether the picture stays if the layers of the group are laid in the place of the group."""
    check_group(drawing, index)
    stack, cells = stack_and_cells(drawing)
    _, layers, _, _, _ = stack[index]
    return stays_with(stack, cells, index, layers)


def is_clip_needless(drawing, index):
    """Return whether the picture stays if the group has no clip."""
    check_group(drawing, index)
    stack, cells = stack_and_cells(drawing)
    kind, layers, opacity, _, matrix = stack[index]
    return stays_with(stack, cells, index, ((kind, layers, opacity, None, matrix),))
