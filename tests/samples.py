"""Drawings, layers and wrong values that several tests use."""

from math import gcd

FAR = 10 ** 30

SAME = (1, 0, 0, 1, 0, 0)
TRIANGLE = ("odd", (((0, 0), (2, 0), (0, 2)),))
SQUARE = ("odd", (((0, 0), (2, 0), (2, 2), (0, 2)),))
T = (("fill", TRIANGLE, (1, 0, 0), (1, 2)),)
Q = (("fill", SQUARE, (1, 0, 0), (1, 2)),)
FILL = T[0]
RUB = ("rub", TRIANGLE, (1, 3))
NOTHING = ((0, 1), (0, 1), (0, 1), (0, 1))
V = ((1, 2), (1, 2), (0, 1), (0, 1))


def number(top, bottom=1):
    """Return a fraction in lowest terms."""
    divisor = gcd(top, bottom)
    return (top // divisor, bottom // divisor)


def at(x, y, bottom=1):
    """Return the point (x / bottom, y / bottom)."""
    return (number(x, bottom), number(y, bottom))


def solid(*colour):
    """Return the value of a colour without anything seen through it."""
    return ((1, 1), *[(part, 1) for part in colour])


def square(low, high):
    """Return a square loop, counterclockwise."""
    return ((low, low), (high, low), (high, high), (low, high))


def fill(*loops, rule="odd", colour=(1, 0, 0), opacity=(1, 1)):
    """Return a fill."""
    return ("fill", (rule, loops), colour, opacity)


def group(layers, opacity=(1, 1), clip=None, matrix=SAME):
    """Return a group."""
    return ("group", layers, opacity, clip, matrix)


def loop_of(many):
    """Return a loop of so many points."""
    return tuple([(k, k * k % 5) for k in range(many)])


def shape_of(*counts):
    """Return a shape whose loops have these numbers of points."""
    return ("odd", tuple([loop_of(many) for many in counts]))


def fill_of(*counts):
    """Return a fill whose loops have these numbers of points."""
    return ("fill", shape_of(*counts), (1, 2, 3), (1, 2))


def nested(core, wrap, depth=30):
    """Return the core, wrapped so many times."""
    for _ in range(depth):
        core = wrap(core)
    return core


WRAPS = [
    lambda core: (core,),
    lambda core: [core],
    lambda core: {"key": core},
    lambda core: ("group", core, (1, 1), None, SAME),
    lambda core: ("group", (core,), (1, 1), None, SAME),
    lambda core: ("fill", core, core, core),
    lambda core: (core, core),
]

# Wrapping twice the core in each step is kept to fewer steps: its size would double each time.
DEPTHS = [30, 30, 30, 30, 30, 6, 6]

PLAIN_WRONG = [
    None, True, False, 0, 1, -1, 1.5, float("nan"), float("inf"), "", "x", "fill", "odd", b"", b"fill",
    (0,), (None,), (True,), ("fill",), ("rub",), ("group",), ("fill", None), ("rub", 1, 2), ("group", 1, 2, 3, 4),
    ("fill", "odd", (1, 0, 0), (1, 2)), ("fill", 0, 0, 0), ("other", TRIANGLE, (1, 2)), ("odd", "turns"),
    [], {}, {"fill": 1}, [()], {"a": [()]}, ((), ()), ("group", "", "", "", ""), ("group", {}, {}, {}, {}),
    [FILL], list(T), list(FILL),
]

# All of these are neither shapes nor layers nor drawings.
WRONG = PLAIN_WRONG + [
    nested(core, wrap, depth)
    for core in (None, True, 1.5, "fill", [], {})
    for wrap, depth in zip(WRAPS, DEPTHS)
]

WRONG_FRACTIONS = [
    (2, 2), (0, 2), (2, 4), (-2, 4), (3, 9), (FAR, 2), (1, 0), (0, 0), (1, -1), (-1, -2), (0, -1), (FAR + 1, 1),
    (-FAR - 1, 1), (1, FAR + 1), (10 ** 5000, 1), (1, 10 ** 5000), (True, 1), (1, True), (False, 1), (True, 2),
    (1.0, 1), (1, 1.0), ("1", 1), (1, None), (1,), (), (1, 1, 1), 1, 0, 0.5, "1/2", None, [1, 2], {1: 1, 2: 2},
]

WRONG_POINTS = [
    *WRONG, (), (0, 0), (1, 1), ((0, 1),), ((0, 1), (0, 1), (0, 1)), [(0, 1), (0, 1)], ([0, 1], (0, 1)), ((0, 1), [0, 1]),
    {(0, 1): 1, (1, 1): 1}, T, FILL, SQUARE, NOTHING, *[(value, (5, 1)) for value in WRONG_FRACTIONS],
    *[((5, 1), value) for value in WRONG_FRACTIONS],
]
