"""What drawings show in the cells into which all their edges together divide the plane."""

from samepictures.lines import make_spot
from samepictures.loops import edges_of
from samepictures.outlines import outline
from samepictures.pieces import segment_between
from samepictures.placing import SAME_PLACE, place_layers
from samepictures.stacks import shown, stack_up
from samepictures.sweeping import sweep_over


def segment_of(edge, source):
    """Return the segment of an edge of a loop."""
    start, end = [make_spot(x, y, 1) for x, y in edge]
    return segment_between(start, end, source)


def list_segments(shapes):
    """Return the list of the segments of the shapes, whose numbers are the sources."""
    return [
        segment_of(edge, source)
        for source, (_, loops) in enumerate(shapes)
        for loop in loops
        for edge in edges_of(loop)
    ]


def list_odd(shapes):
    """Return for each shape whether only odd numbers of turns count."""
    return [rule == "odd" for rule, _ in shapes]


def sweep_shapes(shapes):
    """Return the sweep over the shapes, whose numbers are the sources."""
    return sweep_over(list_segments(shapes), list_odd(shapes))


def insides(sweep):
    """Return for each cell the tuple that tells inside of which shapes it lies."""
    return [tuple([turns != 0 for turns in cell]) for cell in sweep.cells]


def list_looks(stack, cells):
    """Return the list of what the stack shows in the cells, told by insides of which shapes they lie."""
    found = {}
    for inside in cells:
        if inside not in found:
            found[inside] = shown(stack, inside)
    return [found[inside] for inside in cells]


def survey(drawings):
    """Return the sweep over all edges of the drawings, and for each of these the list of its values."""
    shapes = {}
    stacks = [stack_up(place_layers(drawing, SAME_PLACE), shapes) for drawing in drawings]
    sweep = sweep_shapes(list(shapes))
    cells = insides(sweep)
    return sweep, [list_looks(stack, cells) for stack in stacks]


def unlike(drawing, other):
    """Return the region in which the pictures of two drawings are unlike."""
    sweep, (looks, other_looks) = survey([drawing, other])
    flags = [one != two for one, two in zip(looks, other_looks)]
    return outline(sweep, sweep.stretches, flags)
