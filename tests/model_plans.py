"""Plans read by their own rule, and rules for their loops, each worked out for itself."""

from fractions import Fraction

from tests.model import turns_of
from tests.model_edges import trace
from tests.samples import NOTHING


def number_of(point):
    return (Fraction(*point[0]), Fraction(*point[1]))


def loops_of(pair):
    return [[number_of(point) for point in loop] for loop in pair[1]]


def goes_round(loops, x, y):
    """Return whether the loops together go round the point an odd number of times."""
    return sum(turns_of(loop, x, y) for loop in loops) % 2 == 1


def read_plan(some, x, y):
    """Return the value that the plan shows at a point on no edge of its loops."""
    found = NOTHING
    for pair in some:
        if goes_round(loops_of(pair), x, y):
            found = pair[0]
    return found


def plan_edges(some):
    """Return the edges of all loops, each from its lesser end."""
    loops = [loop for pair in some for loop in loops_of(pair)]
    pairs = [pair for loop in loops for pair in zip(loop, loop[1:] + loop[:1])]
    return [tuple(sorted(pair)) for pair in pairs if pair[0] != pair[1]]


def model_plan_form(some):
    """Return the form of what the plan shows."""
    return tuple(trace(plan_edges(some), lambda x, y: read_plan(some, x, y)))


def direction(start, end):
    return (end[0] - start[0], end[1] - start[1])


def rank(coming, going):
    """Return a key that is less if it turns further to the left to go on in this direction."""
    across = going[0] * coming[1] - going[1] * coming[0]
    ahead = going[0] * coming[0] + going[1] * coming[1]
    if across == 0:
        # Straight on; nothing goes back along the edge by which it comes.
        return (1, 0)
    return (0, Fraction(ahead, -across)) if across < 0 else (2, Fraction(-ahead, across))


def directed_edges(some):
    """Return the edges of a region as pairs of points, with the inside on the left."""
    ends = [(number_of(start), number_of(end), left) for start, end, left in some]
    return [(start, end) if left else (end, start) for start, end, left in ends]


def steps_of(loop):
    """Return the edges of a loop."""
    return list(zip(loop, loop[1:] + loop[:1]))


def check_loops(case, some, loops):
    """Check that the loops go round the region by the rules of section 10."""
    loops = [[number_of(point) for point in loop] for loop in loops]
    steps = [step for loop in loops for step in steps_of(loop)]
    case.assertEqual(sorted(steps), sorted(directed_edges(some)))
    case.assertEqual(len(steps), len(set(steps)))
    case.assertEqual(loops, sorted(loops))
    passes = {}
    for loop in loops:
        starts = [k for k in range(len(loop)) if loop[k] == min(loop)]
        case.assertEqual(loop, min(loop[k:] + loop[:k] for k in starts))
        edges = steps_of(loop)
        for coming, going in zip(edges, edges[1:] + edges[:1]):
            passes.setdefault(coming[1], []).append((direction(*coming), direction(*going)))
    for there in passes.values():
        for coming, going in there:
            for other_coming, other_going in there:
                # What lies further to the left belongs to an edge that comes from still nearer to it.
                if rank(coming, other_going) < rank(coming, going):
                    case.assertLess(rank(other_coming, other_going), rank(coming, other_going))
