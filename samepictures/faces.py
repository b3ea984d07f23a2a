"""Cells that hang together, and the parts into which they divide a region."""

from samepictures.outlines import outline


def find_root(roots, cell):
    """Return the first one of the cells that are told to be one and the same as this one."""
    while roots[cell] != cell:
        roots[cell] = roots[roots[cell]]
        cell = roots[cell]
    return cell


def list_roots(sweep):
    """Return for each cell of the sweep the first one of those that hang together with it."""
    roots = list(range(len(sweep.cells)))
    for one, other in sweep.joined:
        one_root, other_root = find_root(roots, one), find_root(roots, other)
        roots[max(one_root, other_root)] = min(one_root, other_root)
    return [find_root(roots, cell) for cell in range(len(roots))]


def begin_of(sweep, stretches):
    """Return where a part with these stretches begins, so that parts can be put in sequence.

    This is its least x, and the height and the slope of its lowest stretch just to the right of it.
    """
    first = min([start for _, start, _, _, _ in stretches])
    x = sweep.places[first][0]
    courses = [
        (sweep.places[start][1], sweep.slopes[line])
        for line, start, end, _, _ in stretches
        if sweep.places[start][0] == x and sweep.places[end][0] > x
    ]
    return (x, min(courses))


def divide(sweep):
    """Return the tuple of the parts of the region over which the sweep went."""
    flags = [cell == (1,) for cell in sweep.cells]
    roots = list_roots(sweep)
    groups = {}
    for stretch in sweep.stretches:
        _, _, _, above, below = stretch
        groups.setdefault(roots[above if flags[above] else below], []).append(stretch)
    told = sorted([(begin_of(sweep, groups[root]), root) for root in groups])
    return tuple([outline(sweep, groups[root], flags) for _, root in told])


def count_outside(sweep):
    """Return how many parts the points outside of the region have."""
    roots = list_roots(sweep)
    return len({root for root, cell in zip(roots, sweep.cells) if cell == (0,)})
