"""Pictures that are other ones turned, mirrored, moved or enlarged.

Of two pictures one of which is the other one enlarged and moved, the edges are in the same sequence.
So the first ones of both tell how far it was moved and how much enlarged; the others tell whether it was.
"""

from samepictures.blending import ALL
from samepictures.drawings import check_drawing
from samepictures.errors import Blank, InvalidMove
from samepictures.exact import is_whole, minus, quotient, times
from samepictures.forms import draw_form
from samepictures.turning import TURNS, put_form, turn_form


def check_turn(value):
    """Raise InvalidMove if the value is not the number of a turn."""
    if not is_whole(value) or not 0 <= value < len(TURNS):
        raise InvalidMove("this is not the number of a turn")


def turned_form(drawing, turn):
    """Return the form of the picture of the drawing, led by the turn."""
    check_drawing(drawing)
    check_turn(turn)
    return turn_form(draw_form(drawing), turn)


def draw_both(drawing, other):
    """Return the forms of two drawings, or raise Blank if one of both shows nothing."""
    check_drawing(drawing)
    check_drawing(other)
    edges, other_edges = draw_form(drawing), draw_form(other)
    if not edges or not other_edges:
        raise Blank("a picture shows nothing")
    return edges, other_edges


def shift_to(edges, factor, other_edges):
    """Return the shift that leads the start of the first edge, multiplied by the factor, to that of the other form."""
    return tuple([minus(there, times(here, factor)) for here, there in zip(edges[0][0], other_edges[0][0])])


def moves(drawing, other):
    """Return the ascending tuple of all pairs of a turn and a shift that lead the first picture to the second one."""
    edges, other_edges = draw_both(drawing, other)
    found = []
    for turn in range(len(TURNS)):
        turned = turn_form(edges, turn)
        shift = shift_to(turned, ALL, other_edges)
        if put_form(turned, ALL, shift) == other_edges:
            found.append((turn, shift))
    return tuple(found)


def factor_between(edge, other_edge):
    """Return how much longer the other edge is, seen along the x, or along the y of an upright edge."""
    axis = 0 if edge[0][0] != edge[1][0] else 1
    return quotient(minus(other_edge[1][axis], other_edge[0][axis]), minus(edge[1][axis], edge[0][axis]))


def enlargement(drawing, other):
    """Return the factor and the shift that lead the first picture to the second one, or None if there are none."""
    edges, other_edges = draw_both(drawing, other)
    factor = factor_between(edges[0], other_edges[0])
    shift = shift_to(edges, factor, other_edges)
    # With a factor not greater than 0, no start would stay ahead of its end, as it is in every form.
    return (factor, shift) if put_form(edges, factor, shift) == other_edges else None
