"""Plans: pictures drawn anew by loops that do not overlap, and what any plan shows."""

from samepictures.blending import NOTHING
from samepictures.changes import is_seen, list_seen
from samepictures.drawings import check_drawing
from samepictures.errors import InvalidPlan
from samepictures.exact import is_point
from samepictures.lines import spot_of
from samepictures.loops import edges_of
from samepictures.outlines import draw, list_rows
from samepictures.pieces import segment_between
from samepictures.surveys import survey
from samepictures.sweeping import Sweep
from samepictures.tours import list_tours


def list_beside(sweep, looks):
    """Return for each look the list of the stretches that have it on one side alone."""
    beside = {look: [] for look in looks}
    for stretch in sweep.stretches:
        _, _, _, above, below = stretch
        if looks[above] != looks[below]:
            beside[looks[above]].append(stretch)
            beside[looks[below]].append(stretch)
    return beside


def draw_loops(sweep, stretches, flags):
    """Return the ascending tuple of the loops round the region in which the flags are True."""
    tours = list_tours(list_rows(stretches, flags), sweep.slopes)
    return tuple([tuple([sweep.point(place) for place in tour]) for tour in tours])


def plan(drawing):
    """Return the plan that shows the picture of the drawing."""
    check_drawing(drawing)
    sweep, (looks,) = survey([drawing])
    beside = list_beside(sweep, looks)
    return tuple([
        (value, draw_loops(sweep, beside[value], [look == value for look in looks])) for value in list_seen(looks)
    ])


def is_plan_loop(value):
    """Return whether the value is a tuple of at least 3 points."""
    return isinstance(value, tuple) and len(value) >= 3 and all([is_point(point) for point in value])


def is_plan_pair(value):
    """Return whether the value is a pair of what is seen and a tuple of loops."""
    return (
        isinstance(value, tuple)
        and len(value) == 2
        and is_seen(value[0])
        and isinstance(value[1], tuple)
        and all([is_plan_loop(loop) for loop in value[1]])
    )


def is_plan(value):
    """Return whether the value is a plan."""
    return isinstance(value, tuple) and all([is_plan_pair(pair) for pair in value])


def check_plan(value):
    """Raise InvalidPlan if the value is not a plan."""
    if not is_plan(value):
        raise InvalidPlan("this is not a plan")


class PlanSweep(Sweep):
    """A sweep over a plan, whose pairs are the sources.

    A plan may have so many pairs that the cells tell only the numbers of those that go round them an
    odd number of times, ascending.
    """

    def __init__(self, segments, many):
        Sweep.__init__(self, segments, [True] * many)
        self.cells = [()]

    def add_cell(self, cell, turns):
        """Add the cell that is reached from a cell across a piece with these turns; return its number."""
        around = self.cells[cell]
        crossed = [source for source, _ in turns]
        staying = [source for source in around if source not in crossed]
        coming = [source for source in crossed if source not in around]
        self.cells.append(tuple(sorted(staying + coming)))
        return len(self.cells) - 1


def sweep_plan(some):
    """Return the sweep that has gone over the loops of the plan."""
    segments = [
        segment_between(spot_of(start), spot_of(end), source)
        for source, (_, loops) in enumerate(some)
        for loop in loops
        for start, end in edges_of(loop)
    ]
    sweep = PlanSweep(segments, len(some))
    sweep.run(True)
    return sweep


def plan_form(some):
    """Return the form of what the plan shows."""
    check_plan(some)
    sweep = sweep_plan(some)
    return draw(sweep, [some[cell[-1]][0] if cell else NOTHING for cell in sweep.cells])


def count_corners(some):
    """Return how many points the loops of the plan have."""
    check_plan(some)
    return sum([len(loop) for _, loops in some for loop in loops])
