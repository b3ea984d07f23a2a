"""The cells into which segments divide the plane.

A line sweeps over the plane from left to right, and upward where points have the same x. The
pieces that it meets are kept in a list, the lowest one first; what lies between two neighbours of
this list is a cell. At each place where pieces begin, end or cross, the list changes.
"""

from heapq import heapify, heappop, heappush

from samepictures.lines import height_over, meeting, point_of
from samepictures.pieces import cut_pieces, mark_slopes, place_of, turned


class Sweep:
    """What a sweep over segments finds.

    After it has gone over them, places has all places in sequence, and stretches the tuples
    (line, start, end, above, below) of the number of a line, those of two places and those of the
    cells on the left and on the right; no two stretches have more than an end in common. The list
    cells tells how often each source turns round the points of each cell; cell 0 has no bound.
    Pairs of cells that are one and the same, found out later, are in joined. Whether an even number
    of pieces cross at some place at which none of them ends is told by is_crossed.
    """

    def __init__(self, segments, odd):
        self.lines, self.scale, self.pieces = cut_pieces(segments, odd)
        self.odd = odd
        self.slopes = mark_slopes(self.lines)
        self.places = []
        self.stretches = []
        self.cells = [(0,) * len(odd)]
        self.joined = []
        self.is_crossed = False
        self.met = []
        self.since = [0] * len(self.pieces)
        self.above = [0] * len(self.pieces)
        self.below = [0] * len(self.pieces)
        self.begins = {}
        self.is_end = {}
        for number, (_, start, end, _) in enumerate(self.pieces):
            self.begins.setdefault(start, []).append(number)
            self.is_end[start] = True
            self.is_end[end] = True
        self.queue = list(self.is_end)
        heapify(self.queue)

    def run(self, may_cross):
        """Go over all places; if an even number of pieces must not cross, stop where they do."""
        while self.queue and (may_cross or not self.is_crossed):
            self.visit(heappop(self.queue))

    def visit(self, place):
        """Let the pieces that end at a place go, and those that begin there come."""
        low, high = self.find_block(place)
        coming = self.met[low:high]
        if len(coming) % 2 == 0 and not self.is_end[place]:
            self.is_crossed = True
        lowest = self.above[self.met[low - 1]] if low > 0 else 0
        highest = self.above[coming[-1]] if coming else lowest
        going = self.list_going(place, coming)
        self.close_stretches(coming)
        self.places.append(place)
        self.begin_stretches(going, lowest, highest)
        self.met[low:high] = going
        self.watch(low - 1)
        self.watch(low + len(going) - 1)

    def find_block(self, place):
        """Return from where to where the pieces on which the place lies are in the list."""
        low, high = 0, len(self.met)
        while low < high:
            half = (low + high) // 2
            if self.height(half, place) > 0:
                low = half + 1
            else:
                high = half
        while high < len(self.met) and self.height(high, place) == 0:
            high += 1
        return low, high

    def height(self, at, place):
        """Return a number greater than 0 if the place is above that piece of the list, 0 on it, else less."""
        line = self.pieces[self.met[at]][0]
        return height_over(self.lines[line], place[2:])

    def list_going(self, place, coming):
        """Return the list of the pieces that go on from the place, the lowest one first."""
        staying = [piece for piece in coming if self.pieces[piece][2] != place]
        going = staying + self.begins.get(place, [])
        return [piece for _, piece in sorted([(self.slopes[self.pieces[piece][0]], piece) for piece in going])]

    def close_stretches(self, coming):
        """Note the stretches of these pieces, which reach as far as the place that comes next."""
        for piece in coming:
            line = self.pieces[piece][0]
            ends = (self.since[piece], len(self.places))
            self.stretches.append((line, *ends, self.above[piece], self.below[piece]))

    def begin_stretches(self, going, lowest, highest):
        """Begin stretches of these pieces at the last place; the cells below and above all of them are given."""
        if not going and lowest != highest:
            self.joined.append((lowest, highest))
        cell = lowest
        for piece in going:
            self.since[piece] = len(self.places) - 1
            self.below[piece] = cell
            cell = highest if piece == going[-1] else self.add_cell(cell, self.pieces[piece][3])
            self.above[piece] = cell

    def add_cell(self, cell, turns):
        """Add the cell that is reached from a cell across a piece with these turns; return its number."""
        numbers = list(self.cells[cell])
        for source, many in turns:
            numbers[source] = turned(numbers[source], many, self.odd[source])
        self.cells.append(tuple(numbers))
        return len(self.cells) - 1

    def watch(self, at):
        """Note where the piece at this number of the list crosses the next one, if it does."""
        if at < 0 or at + 1 >= len(self.met):
            return
        lower, _, lower_end, _ = self.pieces[self.met[at]]
        upper, _, upper_end, _ = self.pieces[self.met[at + 1]]
        if self.slopes[lower] <= self.slopes[upper]:
            return
        place = place_of(meeting(self.lines[lower], self.lines[upper]), self.scale)
        if place <= lower_end and place <= upper_end and place not in self.is_end:
            self.is_end[place] = False
            heappush(self.queue, place)

    def point(self, number):
        """Return the point of the place with this number."""
        return point_of(self.places[number][2:])


def sweep_over(segments, odd):
    """Return the sweep that has gone over the segments."""
    sweep = Sweep(segments, odd)
    sweep.run(True)
    return sweep
