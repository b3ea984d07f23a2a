"""Loops along the edges of a region, with the inside on their left.

An edge is a row (line, start, end, left, right) of outlines.list_rows, told by its number in the list of
the rows. Places are told by their numbers, which are in the sequence of the points.
"""


def first_place(row):
    """Return the end from which the edge is gone along."""
    _, start, end, left, _ = row
    return start if left else end


def list_ends(rows, slopes):
    """Return for each place the list of the ends of edges there; in sequence they lie counterclockwise.

    An end is a tuple (side, slope, number, is_coming) of 0 if its edge lies to the right of the place, or
    above it, else 1, the slope and the number of the edge, and whether this is gone along toward the place.
    """
    ends = {}
    for number, (line, start, end, left, _) in enumerate(rows):
        ends.setdefault(start, []).append((0, slopes[line], number, not left))
        ends.setdefault(end, []).append((1, slopes[line], number, left))
    return ends


def pair_ends(ends):
    """Return for each edge that comes to a place the one that goes on from there; the ends are given clockwise.

    The one that goes on as far to the left as can be is the next one clockwise. Where edges lead straight on
    through the place, two that come may have the same next one; the nearer one takes it, so that no loop
    crosses another one there and each corner is passed by itself.
    """
    followers = {}
    waiting = []
    early = []
    for _, _, number, is_coming in ends:
        if is_coming:
            waiting.append(number)
        elif waiting:
            followers[waiting.pop()] = number
        else:
            early.append(number)
    # The ends lie in a circle: behind the last one comes the first one again.
    for number in early:
        followers[waiting.pop()] = number
    return followers


def begin_least(tour):
    """Return the tour, begun at its least place so that the list is the least one."""
    low = min(tour)
    return min([tour[k:] + tour[:k] for k in range(len(tour)) if tour[k] == low])


def list_tours(rows, slopes):
    """Return the loops along the edges, in sequence, as lists of places."""
    followers = {}
    for ends in list_ends(rows, slopes).values():
        followers.update(pair_ends(sorted(ends, reverse=True)))
    tours = []
    gone = set()
    for first in range(len(rows)):
        tour = []
        number = first
        while number not in gone:
            gone.add(number)
            tour.append(first_place(rows[number]))
            number = followers[number]
        if tour:
            tours.append(begin_least(tour))
    return sorted(tours)
