"""Where edges meet upright lines, and what is seen between them there.

An edge begins with two points, its start and its end, whatever follows them.
"""

from samepictures.blending import NOTHING
from samepictures.exact import ascending, is_less, least, lowest, middle, minus, plus, quotient, times
from samepictures.lines import height_over, is_ahead, line_through, spot_of


def line_of(edge):
    """Return the line on which the edge lies."""
    return line_through(spot_of(edge[0]), spot_of(edge[1]))


def is_on(edge, spot):
    """Return whether the spot lies on the edge, its ends included."""
    start, end = spot_of(edge[0]), spot_of(edge[1])
    if is_ahead(spot, start) or is_ahead(end, spot):
        return False
    return height_over(line_through(start, end), spot) == 0


def goes_on(edge, x):
    """Return whether the edge has points just to the right of this x."""
    return not is_less(x, edge[0][0]) and is_less(x, edge[1][0])


def course(edge, x):
    """Return the height at which the edge meets the upright line at this x, and its slope.

    The courses of edges that go on are in the sequence in which these lie just to the right of x.
    """
    a, b, c = line_of(edge)
    top, bottom = x
    return (lowest(-a * top - c * bottom, b * bottom), lowest(-a, b))


def value_at(edges, point):
    """Return the value that a form shows at a point that lies on none of its edges."""
    x, y = point
    courses = {course(edge, x): edge[2] for edge in edges if goes_on(edge, x)}
    below = [each for each in courses if is_less(each[0], y)]
    return courses[ascending(below)[-1]] if below else NOTHING


def next_place(edges, courses, first):
    """Return the least x beyond the first one at which an edge begins or ends, or two of these courses cross."""
    found = [x for edge in edges for x in (edge[0][0], edge[1][0]) if is_less(first, x)]
    for k in range(1, len(courses)):
        (low, steep), (high, flat) = courses[k - 1], courses[k]
        if is_less(flat, steep):
            found.append(plus(first, quotient(minus(high, low), minus(steep, flat))))
    return least(found)


def list_lefts(forms, x):
    """Return for each course of edges just to the right of x the values on the left of it, by number of the form."""
    lefts = {}
    for number, edges in enumerate(forms):
        for edge in edges:
            if goes_on(edge, x):
                lefts.setdefault(course(edge, x), {})[number] = edge[2]
    return lefts


def count_alike(told):
    """Return how many of the values that are told from below come ahead of those that make two forms unlike."""
    values = [NOTHING, NOTHING]
    many = -1
    while values[0] == values[1]:
        many += 1
        for number, value in told[many].items():
            values[number] = value
    return many


def tell_apart(one, other, first):
    """Return the point at which two forms are told to be unlike.

    The strip to the right of the first x is the first one in which they are unlike.
    """
    lefts = list_lefts((one, other), first)
    courses = ascending(list(lefts))
    x = middle(first, next_place(one + other, courses, first))
    heights = [plus(height, times(slope, minus(x, first))) for height, slope in courses]
    alike = count_alike([lefts[each] for each in courses])
    return (x, middle(heights[alike], heights[alike + 1]))
