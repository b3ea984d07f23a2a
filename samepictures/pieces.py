"""Segments cut into pieces that do not overlap, as a sweep takes them.

A segment is a tuple (start, end, source, turns) of two spots, the start ahead of the end, the number
of the source (a shape, or a region) that it bounds, and how much the turns round a point of this
source grow if the point goes across the segment, from its right to its left.

A place is a spot with two marks ahead of it, so that places are in the sequence of the points. A
piece is a tuple (line, start, end, turns) of the number of its line, two places, and a tuple of pairs
of a source and its turns, as of all segments together that lie there.
"""

from samepictures.exact import mark, scale_for
from samepictures.lines import is_ahead, line_through


def segment_between(start, end, source):
    """Return the segment of an edge that leads from the start to the end, with the inside on its left."""
    if is_ahead(start, end):
        return (start, end, source, 1)
    return (end, start, source, -1)


def place_of(spot, scale):
    """Return the place of a spot."""
    return (mark((spot[0], spot[2]), scale), mark((spot[1], spot[2]), scale), *spot)


def spot_scale(lines, segments):
    """Return the scale at which all ends of the segments and all spots where lines meet have unlike marks."""
    steepest = max([abs(line[0]) for line in lines], default=1)
    flattest = max([line[1] for line in lines], default=1)
    bottoms = [spot[2] for start, end, _, _ in segments for spot in (start, end)]
    return scale_for(max([2 * steepest * flattest, *bottoms]))


def mark_slopes(lines):
    """Return the list of integers, for each line one, that are in the sequence of the slopes; upright is last."""
    scale = scale_for(max([line[1] for line in lines], default=1))
    last = max([abs(line[0]) for line in lines], default=1) * scale + 1
    return [last if b == 0 else mark((-a, b), scale) for a, b, _ in lines]


def turned(number, turns, is_odd):
    """Return the number with the turns; of odd ones only whether they are odd counts."""
    return (number + turns) % 2 if is_odd else number + turns


def cut_line(number, changes, odd):
    """Return the list of the pieces of a line; the changes tell which turns begin at each place of it."""
    pieces = []
    net = {}
    last = None
    for place in sorted(changes):
        told = tuple(sorted([(source, net[source]) for source in net if net[source] != 0]))
        if told:
            pieces.append((number, last, place, told))
        for source, turns in changes[place]:
            net[source] = turned(net.get(source, 0), turns, odd[source])
        last = place
    return pieces


def cut_pieces(segments, odd):
    """Return the lines, the scale of the places, and the pieces that the segments make together.

    The list odd tells of each source whether only odd numbers of turns count.
    """
    through = [line_through(start, end) for start, end, _, _ in segments]
    numbers = {}
    for line in through:
        numbers.setdefault(line, len(numbers))
    lines = list(numbers)
    scale = spot_scale(lines, segments)
    changes = [{} for _ in lines]
    for line, (start, end, source, turns) in zip(through, segments):
        there = changes[numbers[line]]
        there.setdefault(place_of(start, scale), []).append((source, turns))
        there.setdefault(place_of(end, scale), []).append((source, -turns))
    pieces = [piece for k in range(len(lines)) for piece in cut_line(k, changes[k], odd)]
    return lines, scale, pieces
