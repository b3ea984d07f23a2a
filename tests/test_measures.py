"""What is seen in a box on the whole, and along a level line: sections 2.1, 2.6 and 12."""

import random
import unittest
from fractions import Fraction

from samepictures.changes import areas, values, where
from samepictures.errors import InvalidBox, InvalidDrawing, InvalidNumber, OnEdge
from samepictures.forms import form
from samepictures.measures import along, mean
from samepictures.regions import common
from tests.making import make_drawing
from tests.model import show
from tests.model_edges import plain
from tests.samples import (
    FAR, FILL, NOTHING, Q, RUB, SQUARE, T, TRIANGLE, V, WRONG, WRONG_FRACTIONS, WRONG_POINTS, at, fill, group, number, solid,
    square,
)

RED, BLUE = solid(1, 0, 0), solid(0, 0, 1)
BLANKS = [(), (RUB,), (group(()),), (fill(*TRIANGLE[1] * 2),), (FILL, ("rub", SQUARE, (1, 1)))]


def box_of(low_x, low_y, high_x, high_y):
    """Return the box with these bounds, which are integers or Fractions."""
    return tuple([plain(Fraction(bound)) for bound in (low_x, low_y, high_x, high_y)])


def box_region(box):
    """Return the region of the points in the box."""
    low_x, low_y, high_x, high_y = box
    return (
        ((low_x, low_y), (low_x, high_y), False), ((low_x, low_y), (high_x, low_y), True),
        ((low_x, high_y), (high_x, high_y), False), ((high_x, low_y), (high_x, high_y), True),
    )


def area_of(some):
    """Return the area of a region, whose numbers may lie beyond the bounds of arguments."""
    found = Fraction(0)
    for start, end, left in some:
        (start_x, start_y), (end_x, end_y) = [[Fraction(*part) for part in point] for point in (start, end)]
        found += (end_x - start_x) * (start_y + end_y) / 2 * (-1 if left else 1)
    return found


def model_mean(drawing, box):
    """Return the mean, worked out from the regions of all values."""
    low_x, low_y, high_x, high_y = [Fraction(*bound) for bound in box]
    sums = [Fraction(0)] * 4
    for value in values(drawing):
        share = area_of(common(where(drawing, value), box_region(box)))
        sums = [each + share * Fraction(*part) for each, part in zip(sums, value)]
    return tuple([plain(each / (high_x - low_x) / (high_y - low_y)) for each in sums])


def model_along(drawing, level):
    """Return the stretches, or None if an edge begins, ends or lies on the line; seen at points between the places."""
    y = Fraction(*level)
    found = set()
    for start, end, _, _ in form(drawing):
        (start_x, start_y), (end_x, end_y) = [[Fraction(*part) for part in point] for point in (start, end)]
        if y in (start_y, end_y):
            return None
        if min(start_y, end_y) < y < max(start_y, end_y):
            found.add(start_x + (end_x - start_x) * (y - start_y) / (end_y - start_y))
    places = sorted(found)
    rows = []
    for low, high in zip(places, places[1:]):
        # The level may lie along an edge of a loop at which nothing changes.
        value = tuple(map(plain, show(drawing, (1009 * low + 1013 * high) / 2022, y + Fraction(1, 10 ** 40))))
        if value != NOTHING:
            rows.append((plain(low), plain(high), value))
    return tuple(rows)


class MeanTest(unittest.TestCase):
    def check(self, drawing, box, expected=None):
        found = mean(drawing, box)
        self.assertEqual(found, model_mean(drawing, box), (drawing, box))
        if expected is not None:
            self.assertEqual(found, expected)

    def test_example(self):
        self.check(T, box_of(0, 0, 2, 2), ((1, 4), (1, 4), (0, 1), (0, 1)))

    def test_boxes(self):
        half = ((1, 2), (1, 2), (0, 1), (0, 1))
        for box, expected in (
            (box_of(0, 0, 1, 1), half), (box_of(0, 0, 2, 1), ((3, 8), (3, 8), (0, 1), (0, 1))), (box_of(2, 0, 3, 1), NOTHING),
            (box_of(1, 1, 2, 2), NOTHING), (box_of(-5, -5, -3, -3), NOTHING),
            (box_of(-1, -1, 3, 3), ((1, 16), (1, 16), (0, 1), (0, 1))),
            (box_of(Fraction(1, 3), Fraction(1, 3), Fraction(2, 3), Fraction(2, 3)), half),
            (box_of(0, 0, Fraction(3, 2), Fraction(3, 2)), ((7, 18), (7, 18), (0, 1), (0, 1))),
            (box_of(-1, -1, Fraction(1, 2), Fraction(1, 2)), ((1, 18), (1, 18), (0, 1), (0, 1))),
            (box_of(1, -7, 9, 7), ((1, 448), (1, 448), (0, 1), (0, 1))), (box_of(100, 100, 101, 102), NOTHING),
        ):
            self.check(T, box, expected)

    def test_edges_of_the_box_along_those_of_the_picture(self):
        for box in (box_of(0, 0, 2, 2), box_of(0, -2, 2, 0), box_of(2, 0, 4, 2), box_of(0, 0, 4, 1), box_of(1, 0, 2, 2)):
            self.check(Q, box)
        self.check(Q, box_of(0, 0, 4, 1), ((1, 4), (1, 4), (0, 1), (0, 1)))
        self.check(Q, box_of(0, -2, 2, 0), NOTHING)

    def test_values_are_weighted(self):
        right = fill(((1, 0), (2, 0), (2, 2), (1, 2)), colour=(0, 4, 1), opacity=(1, 2))
        halves = (fill(square(0, 2), colour=(9, 0, 0)), right)
        self.check(halves, box_of(0, 0, 2, 2), ((1, 1), (27, 4), (1, 1), (1, 4)))
        self.check(halves, box_of(0, 0, 1, 2), ((1, 1), (9, 1), (0, 1), (0, 1)))
        self.check(halves, box_of(Fraction(1, 2), 0, Fraction(3, 2), 1), ((1, 1), (27, 4), (1, 1), (1, 4)))
        self.check(halves, box_of(0, 0, 4, 2), ((1, 2), (27, 8), (1, 2), (1, 8)))
        # A colour without any of the parts is still seen.
        self.check((fill(square(0, 1), colour=(0, 0, 0)),), box_of(0, 0, 2, 1), ((1, 2), (0, 1), (0, 1), (0, 1)))

    def test_nothing(self):
        for drawing in BLANKS:
            self.check(drawing, box_of(0, 0, 2, 2), NOTHING)

    def test_whole_picture(self):
        chance = random.Random(61)
        for k in range(15):
            drawing = make_drawing(chance, (2, 3, 9)[k % 3])
            sums = [Fraction(0)] * 4
            for value, share in areas(drawing):
                sums = [each + Fraction(*part) * Fraction(*share) for each, part in zip(sums, value)]
            found = mean(drawing, box_of(-500, -300, 500, 200))
            self.assertEqual(found, tuple([plain(each / 500000) for each in sums]))

    def test_model(self):
        chance = random.Random(62)
        seen = 0
        for k in range(60):
            drawing = make_drawing(chance, (1, 2, 3, 9)[k % 4])
            bottom = chance.choice((1, 1, 2, 3, 7, 360))
            xs, ys = [sorted(chance.sample(range(-4 * bottom, 5 * bottom), 2)) for _ in range(2)]
            box = box_of(*[Fraction(bound, bottom) for bound in (xs[0], ys[0], xs[1], ys[1])])
            self.check(drawing, box)
            seen += mean(drawing, box) != NOTHING
        self.assertGreater(seen, 20)

    def test_boxes_add_up(self):
        chance = random.Random(63)
        for _ in range(10):
            drawing = make_drawing(chance, 4)
            cut = Fraction(chance.randint(-200, 200), 101)
            left, right, whole = [mean(drawing, box_of(low, -3, high, 5)) for low, high in ((-4, cut), (cut, 6), (-4, 6))]
            for part in range(4):
                added = Fraction(*left[part]) * (cut + 4) + Fraction(*right[part]) * (6 - cut)
                self.assertEqual(added, Fraction(*whole[part]) * 10)

    def test_great_bottoms(self):
        self.check(T, ((1, FAR), (1, FAR), (1, 1), (1, 1)), V)
        self.check(T, ((-1, FAR), (0, 1), (1, FAR - 1), (1, 1)))
        self.check(T, ((0, 1), (0, 1), (1, FAR), (1, FAR - 1)), V)
        self.check(T, ((FAR - 1, FAR), (FAR - 2, FAR - 1), (FAR, FAR - 1), (FAR - 1, FAR - 2)))
        whole = mean(Q, ((-FAR, 1), (-FAR, 1), (FAR, 1), (FAR, 1)))
        self.assertEqual(whole, (number(2, 4 * FAR * FAR), number(2, 4 * FAR * FAR), (0, 1), (0, 1)))
        chance = random.Random(64)
        for _ in range(5):
            drawing = make_drawing(chance, 3)
            great = FAR // 4
            bounds = [Fraction(chance.randint(1, great), great - k) + by for k, by in enumerate((-3, -3, 1, 2))]
            self.check(drawing, box_of(*bounds))

    def test_wrong_boxes(self):
        good = box_of(0, 0, 2, 2)
        wrong = [
            *WRONG_POINTS, box_of(0, 0, 0, 2), box_of(0, 0, 2, 0), box_of(2, 0, 0, 2), box_of(0, 2, 2, 0), box_of(2, 2, 0, 0),
            box_of(1, 1, 1, 1), good[:3], (*good, (3, 1)), (), list(good), (good,), (0, 0, 2, 2), at(0, 0),
            (at(0, 0), at(2, 2)), {bound: 1 for bound in good}, "box", 0, None, NOTHING, ((2, 1), (0, 1), (3, 2), (1, 1)),
            ((0, 1), (1, 2), (1, 1), (1, 3)),
        ]
        for k in range(4):
            wrong += [(*good[:k], bound, *good[k + 1:]) for bound in [*WRONG_FRACTIONS, 2, 0, True, None, (2, 1, 1)]]
        for box in wrong:
            for drawing in (T, ()):
                with self.assertRaises(InvalidBox, msg=box):
                    mean(drawing, box)

    def test_wrong_drawings(self):
        for value in WRONG:
            for box in (box_of(0, 0, 1, 1), box_of(0, 0, 0, 1), None):
                with self.assertRaises(InvalidDrawing, msg=value):
                    mean(value, box)


class AlongTest(unittest.TestCase):
    def check(self, drawing, level, expected=None):
        level = plain(Fraction(level))
        stretches = model_along(drawing, level)
        if stretches is None:
            with self.assertRaises(OnEdge, msg=(drawing, level)):
                along(drawing, level)
            return None
        found = along(drawing, level)
        self.assertEqual(found, stretches, (drawing, level))
        if expected is not None:
            expected = [(plain(Fraction(low)), plain(Fraction(high)), value) for low, high, value in expected]
            self.assertEqual(found, tuple(expected))
        return found

    def test_example(self):
        self.assertEqual(along(T, (1, 2)), (((0, 1), (3, 2), V),))

    def test_levels(self):
        third = Fraction(1, 3)
        self.check(T, third, [(0, 2 - third, V)])
        self.check(T, Fraction(199, 100), [(0, Fraction(1, 100), V)])
        for level in (-1, Fraction(-1, 100), Fraction(201, 100), 3, 10 ** 30, -10 ** 30):
            self.check(T, level, [])
        for level in (0, 2):
            with self.assertRaises(OnEdge):
                along(T, (level, 1))

    def test_on_edges(self):
        # Only at the levels of ends; the lying edges have theirs there, too.
        drawing = (fill(((0, 0), (4, 1), (8, 0), (6, 5), (4, 3), (2, 5))), fill(((1, 7), (3, 7), (3, 9))))
        for level in range(-1, 11):
            found = self.check(drawing, level)
            self.assertEqual(found is None, level in (0, 1, 3, 5, 7, 9))
        upright = (fill(((0, -3), (0, 3), (5, 0))),)
        for level in (-3, 0, 3):
            with self.assertRaises(OnEdge):
                along(upright, (level, 1))
        self.check(upright, 1, [(0, Fraction(10, 3), RED)])
        for drawing in BLANKS:
            for level in (0, 1, 2, Fraction(1, 2)):
                self.check(drawing, level, [])

    def test_edges_at_which_nothing_changes(self):
        # Corners and edges that are not seen do not count.
        hidden = (fill(square(1, 2)), fill(square(0, 4), colour=(0, 0, 1)), RUB[:1] + (("odd", (square(6, 7),)), (1, 1)))
        for level in (1, 2, 3, 6, 7):
            self.check(hidden, level, [(0, 4, BLUE)] if level < 4 else [])
        spur = (fill(((0, 0), (4, 0), (4, 2), (7, 2), (4, 2), (4, 4), (0, 4))),)
        self.check(spur, 2, [(0, 4, RED)])
        halves = (fill(((0, 0), (4, 0), (4, 3), (0, 3))), fill(((0, 3), (4, 3), (4, 4), (0, 4))))
        self.check(halves, 3, [(0, 4, RED)])

    def test_stretches(self):
        steps = (fill(square(0, 4)), fill(square(2, 6), colour=(0, 0, 1)), fill(((8, 1), (9, 1), (9, 5), (8, 5))))
        self.check(steps, 3, [(0, 2, RED), (2, 6, BLUE), (8, 9, RED)])
        # Stretches of like values with a gap between them, and with one of another value.
        holes = (fill(square(0, 6), square(1, 2), square(3, 5)),)
        self.check(holes, Fraction(3, 2), [(0, 1, RED), (2, 6, RED)])
        self.check(holes, 4, [(0, 3, RED), (5, 6, RED)])
        striped = (fill(square(0, 6)), fill(((1, 1), (5, 5), (5, 4), (1, 0)), colour=(0, 0, 1)))
        low, high = Fraction(5, 2), Fraction(7, 2)
        self.check(striped, low, [(0, low, RED), (low, high, BLUE), (high, 6, RED)])
        # Both values of neighbours are alike but for the opacity.
        glass = (fill(square(0, 4), colour=(0, 0, 0), opacity=(1, 2)), fill(((4, 0), (8, 0), (8, 4), (4, 4)), colour=(0, 0, 0)))
        self.check(glass, 1, [(0, 4, ((1, 2), (0, 1), (0, 1), (0, 1))), (4, 8, ((1, 1), (0, 1), (0, 1), (0, 1)))])

    def test_edges_that_cross_at_the_level(self):
        # Three edges go straight across one another at (0, 0).
        star = (fill(((0, -3), (0, 3), (2, 2), (-2, -2), (-2, 2), (2, -2))),)
        self.assertIn((at(-2, -2), at(2, 2)), [edge[:2] for edge in form(star)])
        self.check(star, 0, [(-2, 0, RED)])
        mirrored = (group(star, matrix=(-1, 0, 0, 1, 0, 0)),)
        self.check(mirrored, 0, [(0, 2, RED)])
        for level in (Fraction(1, 2), Fraction(-1, 2), 1, -1):
            self.assertEqual(len(self.check(star, level)), 2)
        # On a ground, both values are seen.
        ground = (fill(square(-5, 5), colour=(0, 0, 1)), *star)
        self.check(ground, 0, [(-5, -2, BLUE), (-2, 0, RED), (0, 5, BLUE)])
        # Five edges.
        spokes = ((1, 2), (1, 1), (2, 1), (-1, 1), (-1, 2))
        five = (fill(*[((x, y), (-x, -y), (-9, 9 - k), (9, 9 - k)) for k, (x, y) in enumerate(spokes[:3])]),
                fill(*[((x, y), (-x, -y), (-9, -9 + k), (9, -9 + k)) for k, (x, y) in enumerate(spokes[3:])]))
        self.check(five, 0)
        # Where two edges cross, all of them end.
        cross = (fill(((-3, -3), (3, 3), (3, -3), (-3, 3))),)
        with self.assertRaises(OnEdge):
            along(cross, (0, 1))
        self.check(cross, 1, [(-3, -1, RED), (1, 3, RED)])

    def test_upright_edges(self):
        self.check((fill(((1, 0), (1, 3), (1, 5), (0, 2)), ((1, 1), (1, 4), (3, 3))),), Fraction(5, 2))
        row = tuple(fill(((3 * k, 0), (3 * k + 1, 0), (3 * k + 1, 4), (3 * k, 4)), colour=(k, 0, 0)) for k in range(3))
        self.check(row, 1, [(3 * k, 3 * k + 1, solid(k, 0, 0)) for k in range(3)])

    def test_model(self):
        chance = random.Random(65)
        refused = 0
        for k in range(150):
            drawing = make_drawing(chance, (1, 2, 3, 9)[k % 4])
            for level in (chance.randint(-4, 4), Fraction(chance.randint(-9, 9), 2), Fraction(chance.randint(-999, 999), 331)):
                refused += self.check(drawing, level) is None
            for edge in form(drawing)[:3]:
                with self.assertRaises(OnEdge):
                    along(drawing, edge[0][1])
                with self.assertRaises(OnEdge):
                    along(drawing, edge[1][1])
        self.assertGreater(refused, 50)

    def test_great_bottoms(self):
        self.assertEqual(along(T, (1, FAR)), (((0, 1), (2 * FAR - 1, FAR), V),))
        self.assertEqual(along(T, (-1, FAR)), ())
        self.assertEqual(along(T, (FAR - 1, FAR - 2)), (((0, 1), number(FAR - 3, FAR - 2), V),))

    def test_wrong_levels(self):
        for level in [*WRONG_FRACTIONS, *WRONG, *WRONG_POINTS, (1, 2, 3), [1, 2], "1/2", 1, 0, 0.5, True, None, at(1, 1), V, T]:
            for drawing in (T, ()):
                # Among the values that are no points, one is a fraction.
                if level == (1, 1):
                    continue
                with self.assertRaises(InvalidNumber, msg=level):
                    along(drawing, level)

    def test_wrong_drawings(self):
        for value in WRONG:
            for level in ((1, 2), (0, 2), None):
                with self.assertRaises(InvalidDrawing, msg=value):
                    along(value, level)


if __name__ == "__main__":
    unittest.main()
