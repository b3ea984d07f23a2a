"""Parts of regions worked out in another way: upright strips are cut into cells, and neighbours are joined."""

from fractions import Fraction

from tests.model_edges import NEAR, cut, trace

FAR = 10 ** 9


def number_of(point):
    return (Fraction(*point[0]), Fraction(*point[1]))


def height(edge, x):
    (start_x, start_y), (end_x, end_y), _ = edge
    return start_y + (x - start_x) * (end_y - start_y) / (end_x - start_x)


class Strips:
    """The strips of a region between neighbouring places, and the cells in them.

    A cell is a tuple (strip, number) and has a lower and an upper edge, or None where there is none.
    """

    def __init__(self, some):
        self.edges = [(number_of(start), number_of(end), left) for start, end, left in some]
        # Edges of a region may cross, three at a time, so that all of them go straight on.
        places = {point[0] for _, *ends in cut([edge[:2] for edge in self.edges]) for point in ends}
        self.places = [Fraction(-FAR), *sorted(places), Fraction(FAR)]
        self.strips = [self.cut_strip(k) for k in range(len(self.places) - 1)]
        self.root = {(k, n): (k, n) for k, cells in enumerate(self.strips) for n in range(len(cells))}
        for k in range(len(self.strips) - 1):
            self.join(k)

    def cut_strip(self, k):
        low, high = self.places[k:k + 2]
        half = (low + high) / 2
        met = sorted((height(edge, half), edge) for edge in self.edges if edge[0][0] <= low and high <= edge[1][0])
        met = [None, *[edge for _, edge in met], None]
        return list(zip(met, met[1:]))

    def is_in(self, k, n):
        lower = self.strips[k][n][0]
        return lower is not None and lower[2]

    def span(self, k, n, x):
        lower, upper = self.strips[k][n]
        return (-FAR if lower is None else height(lower, x), FAR if upper is None else height(upper, x))

    def find(self, cell):
        while self.root[cell] != cell:
            cell = self.root[cell]
        return cell

    def join(self, k):
        x = self.places[k + 1]
        for n in range(len(self.strips[k])):
            low, high = self.span(k, n, x)
            for m in range(len(self.strips[k + 1])):
                next_low, next_high = self.span(k + 1, m, x)
                if self.is_in(k, n) == self.is_in(k + 1, m) and max(low, next_low) < min(high, next_high):
                    one, other = sorted([self.find((k, n)), self.find((k + 1, m))])
                    self.root[other] = one

    def cell_at(self, x, y):
        k = max(k for k in range(len(self.strips)) if self.places[k] <= x)
        return next((k, n) for n in range(len(self.strips[k])) if self.span(k, n, x)[0] <= y < self.span(k, n, x)[1])

    def list_roots(self, is_in):
        return sorted({self.find(cell) for cell in self.root if self.is_in(*cell) == is_in})

    def begin(self, root):
        """Return the place at which the part begins, and its least height a little to the right of it."""
        cells = [cell for cell in self.root if self.find(cell) == root]
        first = min(k for k, _ in cells)
        x = self.places[first] + NEAR
        return (x, min(self.span(k, n, x)[0] for k, n in cells if k == first))


def model_parts(some):
    """Return the tuple of the parts of the region."""
    strips = Strips(some)
    found = []
    for root in sorted(strips.list_roots(True), key=strips.begin):
        edges = trace([edge[:2] for edge in strips.edges], lambda x, y: strips.find(strips.cell_at(x, y)) == root)
        found.append(tuple([(start, end, left) for start, end, left, _ in edges]))
    return tuple(found)


def model_holes(some):
    """Return how many parts the points outside have, but for the one without a bound."""
    return len(Strips(some).list_roots(False)) - 1
