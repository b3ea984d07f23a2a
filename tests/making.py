"""Drawings made by chance, for tests that compare; the chance is seeded by the test."""

from samepictures.drawings import is_drawing


def make_loop(chance, reach):
    """Return a loop, sometimes with points twice or edges laid twice."""
    loop = [(chance.randint(-reach, reach), chance.randint(-reach, reach)) for _ in range(chance.randint(3, 8))]
    if chance.random() < 0.2 and len(loop) < 8:
        loop.insert(chance.randrange(len(loop)), chance.choice(loop))
    return tuple(loop)


def make_shape(chance, reach):
    """Return a shape, sometimes with a loop twice or turned round."""
    loops = [make_loop(chance, reach) for _ in range(chance.choice((1, 1, 2)))]
    if chance.random() < 0.2:
        loops.append(loops[0][::chance.choice((1, -1))])
    return (chance.choice(("odd", "turns")), tuple(loops))


def make_opacity(chance):
    """Return an opacity."""
    bottom = chance.randint(1, 6)
    return (chance.randint(1, bottom), bottom)


def make_matrix(chance):
    """Return a matrix."""
    while True:
        a, b, c, d = [chance.randint(-2, 2) for _ in range(4)]
        if a * d != b * c:
            return (a, b, c, d, chance.randint(-9, 9), chance.randint(-9, 9))


def make_layer(chance, reach, deepest):
    """Return a layer."""
    kind = chance.choice(("fill", "fill", "rub", "group") if deepest else ("fill", "rub"))
    if kind == "fill":
        colour = tuple([chance.randint(0, 9) for _ in range(3)])
        return ("fill", make_shape(chance, reach), colour, make_opacity(chance))
    if kind == "rub":
        return ("rub", make_shape(chance, reach), make_opacity(chance))
    layers = tuple([make_layer(chance, reach, deepest - 1) for _ in range(chance.randint(0, 3))])
    clip = make_shape(chance, reach) if chance.random() < 0.4 else None
    return ("group", layers, make_opacity(chance), clip, make_matrix(chance))


def make_drawing(chance, reach=9):
    """Return a drawing."""
    while True:
        drawing = tuple([make_layer(chance, reach, 2) for _ in range(chance.randint(0, 4))])
        if is_drawing(drawing):
            return drawing
