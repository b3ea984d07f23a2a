"""Forms of pictures, and what tells pictures apart: sections 2.5, 2.6 and 6, guarantees (a) and (b)."""

import random
import unittest
from fractions import Fraction

from samepictures.errors import InvalidDrawing, InvalidPoint, OnEdge
from samepictures.forms import form, is_blank, parting, same, seen
from samepictures.seeing import painted
from tests.making import make_drawing, make_shape
from tests.model import show
from tests.model_edges import NEAR, cut, model_form, plain
from tests.samples import (
    FAR, FILL, NOTHING, Q, RUB, SAME, SQUARE, T, TRIANGLE, V, WRONG, WRONG_POINTS, at, fill, group, solid, square,
)

RED = solid(1, 0, 0)
BLUE = solid(0, 0, 1)


def numbers(point):
    return (Fraction(*point[0]), Fraction(*point[1]))


def model_value(drawing, x, y):
    """Return the value at the point or, if edges meet there, in a cell that the point touches."""
    return tuple(map(plain, show(drawing, x + NEAR, y + NEAR * NEAR)))


def is_on_form(edges, x, y):
    for start, end, _, _ in edges:
        (start_x, start_y), (end_x, end_y) = numbers(start), numbers(end)
        on_line = (end_x - start_x) * (y - start_y) == (end_y - start_y) * (x - start_x)
        if on_line and (start_x, start_y) <= (x, y) <= (end_x, end_y):
            return True
    return False


def model_parting(drawing, other):
    """Return the point of the rule of section 6, found by going through all strips."""
    edges = [(numbers(edge[0]), numbers(edge[1])) for edge in form(drawing) + form(other)]
    places = sorted({end[0] for _, *ends in cut(edges) for end in ends})
    for low, high in zip(places, places[1:]):
        x = (low + high) / 2
        met = {
            start[1] + (x - start[0]) * (end[1] - start[1]) / (end[0] - start[0])
            for start, end in edges if start[0] < x < end[0]
        }
        heights = sorted(met)
        for lower, upper in zip(heights, heights[1:]):
            y = (lower + upper) / 2
            if show(drawing, x, y) != show(other, x, y):
                return (plain(x), plain(y))
    return None


class FormTest(unittest.TestCase):
    def test_example(self):
        edges = form(T)
        self.assertEqual(edges, (
            (at(0, 0), at(0, 2), NOTHING, V), (at(0, 0), at(2, 0), V, NOTHING), (at(0, 2), at(2, 0), NOTHING, V),
        ))

    def test_nothing(self):
        for drawing in ((), (RUB,), (group(()),), (group((RUB,), (1, 2), SQUARE),)):
            self.assertEqual(form(drawing), (), drawing)

    def test_model(self):
        chance = random.Random(5)
        filled = 0
        for k in range(140):
            drawing = make_drawing(chance, (1, 2, 3, 9)[k % 4])
            edges = form(drawing)
            self.assertEqual(edges, model_form(drawing), drawing)
            filled += len(edges) > 0
        self.assertGreater(filled, 70)

    def test_values_beside_edges(self):
        chance = random.Random(6)
        near = Fraction(1, 10 ** 12)
        for _ in range(12):
            drawing = make_drawing(chance, 4)
            for start, end, left, right in form(drawing):
                (start_x, start_y), (end_x, end_y) = numbers(start), numbers(end)
                self.assertNotEqual(left, right)
                self.assertLess((start_x, start_y), (end_x, end_y))
                x, y = (1009 * start_x + 1013 * end_x) / 2022, (1009 * start_y + 1013 * end_y) / 2022
                across, up = near * (end_x - start_x), near * (end_y - start_y)
                for side, value in ((1, left), (-1, right)):
                    there = (plain(x - side * up), plain(y + side * across))
                    self.assertEqual(painted(drawing, there), value)
                    self.assertEqual(seen(drawing, there), value)

    def test_loops_drawn_otherwise(self):
        loop = ((0, 0), (4, 0), (4, 4), (1, 3))
        edges = form((fill(loop),))
        self.assertEqual(len(edges), 4)
        others = [loop[k:] + loop[:k] for k in range(4)]
        others += [other[::-1] for other in others]
        others.append(((0, 0), (2, 0), (4, 0), (4, 0), (4, 4), (1, 3)))
        others.append(((0, 0), (4, 0), (4, 4), (7, 4), (4, 4), (1, 3)))
        others.append(((0, 0), (4, 0), (9, 0), (4, 0), (4, 4), (1, 3)))
        for other in others:
            for rule in ("odd", "turns"):
                self.assertEqual(form((fill(other, rule=rule),)), edges, other)
        self.assertEqual(form((fill(loop, loop, rule="turns"),)), edges)
        self.assertEqual(form((fill(loop, loop),)), ())
        self.assertEqual(form((fill(loop, loop[::-1], rule="turns"),)), ())
        self.assertEqual(form((fill(loop, loop, loop),)), edges)
        self.assertEqual(form((fill(((0, 0), (4, 4), (0, 0))),)), ())

    def test_layers_that_are_not_seen(self):
        top = fill(square(0, 4), colour=(0, 0, 1))
        edges = form((top,))
        hidden = [fill(square(1, 3)), fill(square(0, 4), opacity=(1, 3)), RUB, group((FILL,), (1, 6)), group(())]
        for layer in hidden:
            self.assertEqual(form((layer, top)), edges, layer)
        self.assertEqual(form((fill(square(5, 7)), ("rub", ("odd", (square(5, 8),)), (1, 1)), top)), edges)
        self.assertNotEqual(form((fill(square(5, 7)), ("rub", ("odd", (square(5, 8),)), (5, 6)), top)), edges)
        self.assertNotEqual(form((fill(square(1, 5)), top)), edges)

    def test_like_values_on_both_sides(self):
        whole = form((fill(square(0, 4)),))
        halves = (fill(((0, 0), (1, 0), (3, 4), (0, 4))), fill(((1, 0), (4, 0), (4, 4), (3, 4))))
        self.assertEqual(form(halves), whole)
        both = (fill(((0, 0), (4, 0), (4, 3), (0, 3))), fill(((0, 1), (4, 1), (4, 4), (0, 4))))
        self.assertEqual(form(both), whole)
        thin = tuple(fill(*layer[1][1], opacity=(1, 2)) for layer in both)
        self.assertEqual(len(form(thin)), 10)

    def test_edges_on_one_line(self):
        apart = (fill(square(0, 1)), fill(((2, 0), (3, 0), (3, 1), (2, 1))))
        self.assertEqual(len(form(apart)), 8)
        joined = (fill(square(0, 1)), fill(((1, 0), (3, 0), (3, 1), (1, 1))))
        self.assertEqual(form(joined), form((fill(((0, 0), (3, 0), (3, 1), (0, 1))),)))
        unlike = (joined[0], fill(*joined[1][1][1], colour=(0, 0, 1)))
        self.assertEqual(form(unlike), (
            (at(0, 0), at(0, 1), NOTHING, RED), (at(0, 0), at(1, 0), RED, NOTHING), (at(0, 1), at(1, 1), NOTHING, RED),
            (at(1, 0), at(1, 1), RED, BLUE), (at(1, 0), at(3, 0), BLUE, NOTHING), (at(1, 1), at(3, 1), NOTHING, BLUE),
            (at(3, 0), at(3, 1), BLUE, NOTHING),
        ))
        # The two triangles touch at a corner alone, and their lower edges are one.
        touching = (fill(((0, 0), (2, 0), (1, 1))), fill(((2, 0), (4, 0), (3, 1))))
        self.assertEqual(form(touching)[1], (at(0, 0), at(4, 0), RED, NOTHING))
        self.assertEqual(len(form(touching)), 5)
        # One lies above the line, the other one below it.
        turned = (fill(((0, 0), (2, 0), (1, 1))), fill(((2, 0), (4, 0), (3, -1))))
        lying = [edge for edge in form(turned) if edge[0][1] == edge[1][1]]
        self.assertEqual(lying, [(at(0, 0), at(2, 0), RED, NOTHING), (at(2, 0), at(4, 0), NOTHING, RED)])

    def test_edges_that_cross_and_end_in_the_midst(self):
        # Three edges of one shape meet at a point, and go straight on.
        star = ((0, 0), (2, 2), (2, -2), (-2, 2), (-2, -2))
        crossing = (fill(((-2, -1), (2, 1), (2, -1), (-2, 1)), ((0, -2), (1, -2), (0, 2), (-1, 2))),)
        self.assertEqual(form(crossing), model_form(crossing))
        self.assertEqual(form((fill(star),)), model_form((fill(star),)))
        ending = (fill(square(0, 4), opacity=(1, 2)), fill(((2, 0), (3, 2), (1, 2)), opacity=(1, 3)))
        self.assertEqual(form(ending)[1], (at(0, 0), at(4, 0), ((1, 2), (1, 2), (0, 1), (0, 1)), NOTHING))
        # Four values around each crossing: all edges end there.
        cross = (
            fill(((0, 1), (6, 1), (6, 3), (0, 3)), opacity=(1, 2)),
            fill(((1, 0), (3, 0), (3, 6), (1, 6)), opacity=(1, 2), colour=(0, 1, 0)),
        )
        self.assertEqual(form(cross), model_form(cross))
        self.assertEqual(len(form(cross)), 16)
        rubbed = (cross[0], ("rub", cross[1][1], (1, 2)))
        self.assertEqual(form(rubbed), model_form(rubbed))

    def test_upright_edges(self):
        drawing = (fill(((1, 0), (1, 3), (1, 5), (0, 2)), ((1, 1), (1, 4), (3, 2))),)
        self.assertEqual(form(drawing), model_form(drawing))
        upright = [edge for edge in form(drawing) if edge[0][0] == edge[1][0]]
        self.assertEqual(upright, [(at(1, 0), at(1, 1), RED, NOTHING), (at(1, 4), at(1, 5), RED, NOTHING)])

    def test_matrices(self):
        for matrix in ((2, 0, 0, 2, 9, -9), (1, 0, 2, 1, 0, 0), (-1, 0, 0, 1, 3, 0), (2, 1, -1, 2, 5, 5)):
            a, b, c, d, e, f = matrix
            drawing = (group(T, matrix=matrix),)
            led = [(a * x + c * y + e, b * x + d * y + f) for x, y in ((0, 0), (2, 0), (0, 2))]
            self.assertEqual({edge[0] for edge in form(drawing)} | {edge[1] for edge in form(drawing)},
                             {at(x, y) for x, y in led})
            self.assertEqual({edge[2] for edge in form(drawing)} | {edge[3] for edge in form(drawing)}, {V, NOTHING})
            self.assertEqual(form((group(drawing, matrix=matrix),)), model_form((group(drawing, matrix=matrix),)))

    def test_crossings_with_great_bottoms(self):
        thin = (
            group((fill(((-9, -9), (9, 8), (9, 9))),), matrix=(2, 1, 1, 2, 0, 0)),
            group((fill(((-9, 9), (9, -8), (8, -9)), colour=(0, 1, 0), opacity=(1, 2)),), matrix=(2, 1, 1, 1, 0, 1)),
            group((group((fill(((-9, 8), (9, 7), (9, 9)), opacity=(1, 3)),), matrix=(2, 1, 1, 1, -9, 7)),),
                  (1, 1), None, (2, 0, 1, -1, -9, 5)),
        )
        self.assertEqual(form(thin), model_form(thin))
        self.assertGreater(max(number[1] for edge in form(thin) for end in edge[:2] for number in end), 100)

    def test_crossings_at_nearly_the_same_x(self):
        # The first two edges cross 2 / 103563 to the left of where the other two do, but higher.
        loops = (
            ((8, 9), (-9, -5), (-9, -4)), ((-7, 8), (1, -5), (1, -4)),
            ((7, 6), (-6, -8), (-5, -8)), ((-9, 2), (3, -9), (3, -8)),
        )
        for order in ((0, 1, 2, 3), (3, 1, 0, 2), (2, 3, 1, 0)):
            drawing = tuple(fill(loops[k], colour=(k, 1, 0), opacity=(1, 2)) for k in order)
            edges = form(drawing)
            self.assertEqual(edges, model_form(drawing))
            starts = [edge[0] for edge in edges]
            self.assertLess(
                starts.index(((-787, 333), (155, 333))), starts.index(((-735, 311), (-1270, 311))),
            )

    def test_many_crossings(self):
        chance = random.Random(10)
        for k in range(6):
            loops = [tuple((chance.randint(-9, 9), chance.randint(-9, 9)) for _ in range(8)) for _ in range(5)]
            matrix = [chance.choice((-2, 2)), chance.choice((-1, 1)), chance.choice((-1, 0, 1)), 2, 0, 0]
            drawing = (group((fill(*loops[:2], opacity=(1, 2)), fill(loops[2], opacity=(1, 3))), (1, 1), None, tuple(matrix)),
                       fill(*loops[3:], rule="turns", opacity=(1, 4)))
            self.assertEqual(form(drawing), model_form(drawing))

    def test_many_edges(self):
        loop = tuple((9 if k % 2 else -9, k * 5 % 17 - 8) for k in range(8))
        other = tuple((k * 7 % 17 - 8, 9 if k % 2 else -9) for k in range(8))
        layers = (fill(loop, other, loop[1:]), fill(other, loop[2:], other[1:], rule="turns", opacity=(1, 2)))
        self.assertEqual(form(layers), model_form(layers))

    def test_wrong_drawings(self):
        for value in WRONG:
            for function in (form, is_blank):
                with self.assertRaises(InvalidDrawing, msg=value):
                    function(value)


class SeenTest(unittest.TestCase):
    def test_example(self):
        self.assertEqual(seen(T, at(1, 1, 2)), V)
        self.assertEqual(seen(T, at(2, 2)), NOTHING)
        self.assertEqual(seen((), at(0, 0)), NOTHING)

    def test_on_edges_of_the_form(self):
        for x, y in ((0, 0), (2, 0), (0, 2), (1, 0), (1, 1), (0, 1)):
            with self.assertRaises(OnEdge):
                seen(T, at(x, y))
        for x, y in ((3, 0), (0, 3), (-1, 0), (0, -1), (3, -1), (-1, 3)):
            self.assertEqual(seen(T, at(x, y)), NOTHING)

    def test_on_edges_at_which_nothing_changes(self):
        twice = (fill(square(0, 4)), fill(square(1, 3)))
        for x, y in ((1, 1), (2, 1), (3, 3), (1, 2)):
            self.assertEqual(seen(twice, at(x, y)), RED)
            with self.assertRaises(OnEdge):
                painted(twice, at(x, y))
        self.assertEqual(seen((RUB,), at(1, 1)), NOTHING)
        spur = (fill(((0, 0), (4, 0), (4, 4), (7, 4), (4, 4), (0, 4))),)
        self.assertEqual(seen(spur, at(5, 4)), NOTHING)
        with self.assertRaises(OnEdge):
            seen(spur, at(4, 4))
        crossed = (fill(square(0, 4)), fill(((-1, 1), (5, 3), (5, 4), (-1, 2)), opacity=(1, 2)), fill(square(0, 4)))
        for x, y in ((2, 2), (1, 2), (3, 3)):
            self.assertEqual(seen(crossed, at(x, y)), RED)

    def test_above_and_below_corners(self):
        drawing = (fill(((0, 0), (2, 2), (4, 0), (4, 6), (2, 4), (0, 6))), fill(((1, -2), (3, -2), (2, 0))))
        for y, value in ((-3, NOTHING), (-1, RED), (1, NOTHING), (3, RED), (5, NOTHING), (7, NOTHING)):
            self.assertEqual(seen(drawing, at(2, y)), value, y)
        for y in (-2, 0, 2, 4):
            with self.assertRaises(OnEdge):
                seen(drawing, at(2, y))

    def test_model(self):
        chance = random.Random(7)
        on_edges = 0
        for k in range(150):
            drawing = make_drawing(chance, (1, 2, 4)[k % 3])
            edges = form(drawing)
            points = [end for edge in edges for end in edge[:2]][:4]
            points += [at(chance.randint(-9, 9), chance.randint(-9, 9), chance.randint(1, 3)) for _ in range(12)]
            points += [at(chance.randint(-30, 30), chance.randint(-30, 30)) for _ in range(4)]
            for point in points:
                x, y = numbers(point)
                if is_on_form(edges, x, y):
                    on_edges += 1
                    with self.assertRaises(OnEdge):
                        seen(drawing, point)
                else:
                    self.assertEqual(seen(drawing, point), model_value(drawing, x, y), (drawing, point))
        self.assertGreater(on_edges, 100)

    def test_far_points(self):
        for x in (-FAR, 1 - FAR, 0, 1, FAR):
            for y in (-FAR, FAR):
                self.assertEqual(seen(Q, ((x, 1), (y, 1))), NOTHING)
                self.assertEqual(seen(Q, ((y, 1), (x, 1))), NOTHING)
        self.assertEqual(seen(T, ((1, FAR), (1, FAR))), V)
        self.assertEqual(seen(T, ((-1, FAR), (1, FAR))), NOTHING)
        half = FAR // 2
        self.assertEqual(seen(T, ((1, 1), (half - 1, half))), V)
        self.assertEqual(seen(T, ((1, 1), (half + 1, half))), NOTHING)

    def test_wrong_arguments(self):
        for point in WRONG_POINTS:
            with self.assertRaises(InvalidPoint, msg=point):
                seen(T, point)
        for value in WRONG:
            for point in (at(0, 0), None):
                with self.assertRaises(InvalidDrawing, msg=value):
                    seen(value, point)


class SameTest(unittest.TestCase):
    ALIKE = [
        ((), (RUB, group((RUB,)))),
        ((FILL,), (fill(((0, 2), (0, 0), (2, 0)), opacity=(1, 2)),)),
        ((FILL,), (fill(((0, 0), (0, 2), (2, 0)), opacity=(2, 4)),)),
        ((FILL,), (group((fill(*TRIANGLE[1]),), (1, 2)),)),
        ((FILL,), (group((fill(square(0, 2)),), (1, 2), TRIANGLE),)),
        ((FILL,), (group((fill(((0, 0), (1, 0), (0, 1)), opacity=(1, 2)),), matrix=(2, 0, 0, 2, 0, 0)),)),
        ((fill(square(0, 2)),), (fill(((0, 0), (2, 0), (0, 2))), fill(((2, 0), (2, 2), (0, 2))))),
        ((fill(square(0, 3), square(1, 2)),), (fill(square(0, 3)), ("rub", ("odd", (square(1, 2),)), (1, 1)))),
        ((fill(square(0, 2), opacity=(3, 4)),), (fill(square(0, 2), opacity=(1, 2)),) * 2),
        ((fill(square(0, 2), colour=(2, 4, 6), opacity=(1, 2)),),
         (fill(square(0, 2), colour=(2, 4, 6)), ("rub", ("odd", (square(0, 2),)), (1, 2)))),
    ]

    def test_alike(self):
        for drawing, other in self.ALIKE:
            self.assertIs(same(drawing, other), True, (drawing, other))
            self.assertIs(same(other, drawing), True)
            self.assertIsNone(parting(drawing, other))
            self.assertEqual(form(drawing), form(other))

    def test_unlike(self):
        self.assertIs(same(T, Q), False)
        self.assertIs(same((), T), False)
        small = ((FILL, fill(((7, 8), (8, 8), (8, 9)), opacity=(1, 6))), (FILL,))
        turned = ((fill(square(0, 1)), fill(square(1, 2), colour=(0, 0, 1))), (fill(square(0, 1)), fill(square(1, 2))))
        for one, other in (small, turned, ((FILL,), (FILL, FILL)), (T, (("fill", TRIANGLE, (1, 0, 1), (1, 2)),))):
            self.assertIs(same(one, other), False)
            self.assertIs(same(other, one), False)

    def test_is_blank(self):
        for drawing in ((), (RUB,), (group(()),), (fill(*TRIANGLE[1] * 2),), (FILL, ("rub", SQUARE, (1, 1)))):
            self.assertIs(is_blank(drawing), True, drawing)
        clipped = group((FILL,), (1, 1), ("odd", (square(5, 6),)))
        self.assertIs(is_blank((clipped,)), True)
        for drawing in (T, (FILL, RUB), (RUB, FILL), (fill(square(0, 1), colour=(0, 0, 0), opacity=(1, 6)),)):
            self.assertIs(is_blank(drawing), False, drawing)

    def test_wrong_drawings(self):
        for value in WRONG:
            for function in (same, parting):
                for arguments in ((value, T), (T, value), (value, None)):
                    with self.assertRaises(InvalidDrawing, msg=value):
                        function(*arguments)


class PartingTest(unittest.TestCase):
    def check(self, drawing, other):
        point = parting(drawing, other)
        self.assertEqual(point, model_parting(drawing, other), (drawing, other))
        self.assertEqual(point, parting(other, drawing))
        self.assertEqual(point is None, same(drawing, other))
        if point is not None:
            self.assertNotEqual(seen(drawing, point), seen(other, point))
        return point

    def test_example(self):
        self.assertEqual(self.check(T, Q), at(2, 3, 2))

    def test_first_strip(self):
        # The pictures are alike up to x = 4, where both of two steps are unlike.
        base = (fill(((0, 0), (8, 0), (8, 8), (0, 8))),)
        far = (*base, fill(square(5, 7), colour=(0, 1, 0)), fill(((4, 2), (6, 2), (6, 3), (4, 3)), colour=(0, 0, 1)))
        self.assertEqual(self.check(base, far), at(9, 5, 2))
        self.assertEqual(self.check((), far), at(4, 8, 2))

    def test_lowest_unlike_stretch(self):
        one = (fill(square(0, 2)), fill(((0, 4), (2, 4), (2, 6), (0, 6))))
        other = (fill(square(0, 2)), fill(((0, 5), (2, 5), (2, 7), (0, 7))))
        self.assertEqual(self.check(one, other), at(2, 9, 2))

    def test_crossings_are_places(self):
        one = (fill(((0, 0), (8, 0), (8, 4))),)
        other = (fill(((0, 0), (8, 0), (8, 1), (0, 1))),)
        # The slanted edge crosses the upper one at x = 2.
        self.assertEqual(self.check(one, other), at(4, 3, 4))
        # In a single form, two edges cross at x = 3.
        cross = (fill(((0, 0), (6, 6), (9, 6), (3, 0)), opacity=(1, 2)), fill(((0, 6), (9, 3), (9, 4), (0, 7)),
                                                                             colour=(0, 1, 0), opacity=(1, 2)))
        self.check(cross, (*cross, fill(((4, 0), (9, 0), (9, 1)), opacity=(1, 3))))
        self.check(cross, cross[:1])
        self.check(cross, cross[1:])

    def test_edge_of_one_picture_along_one_of_the_other(self):
        one = (fill(((0, 0), (4, 4), (0, 4))),)
        other = (fill(((0, 0), (6, 6), (0, 6)), colour=(0, 1, 0)),)
        self.check(one, other)
        self.check(one, (fill(((1, 1), (6, 6), (1, 6))),))

    def test_does_not_depend_on_the_drawings(self):
        for drawing, alike in SameTest.ALIKE:
            for other in ((), T, Q, (FILL, FILL), (fill(square(1, 3), square(2, 5)),)):
                self.assertEqual(parting(drawing, other), parting(alike, other))
                self.assertEqual(parting(other, drawing), parting(other, alike))

    def test_model(self):
        chance = random.Random(8)
        for k in range(150):
            drawing = make_drawing(chance, (1, 2, 3)[k % 3])
            other = make_drawing(chance, (1, 2, 3)[k % 3]) if k % 2 else drawing[:-1]
            self.check(drawing, other)

    def test_one_small_place(self):
        chance = random.Random(9)
        for _ in range(60):
            drawing = make_drawing(chance, 3)[:3]
            patch = ("fill", make_shape(chance, 1), (1, 2, 3), (1, 6))
            if sum(len(loop) for loop in patch[1][1]) < 12:
                place = group((patch,), (1, 6), None, (1, 0, 0, 1, chance.randint(-4, 4), chance.randint(-4, 4)))
                try:
                    self.check((*drawing, place), drawing)
                except InvalidDrawing:
                    continue


if __name__ == "__main__":
    unittest.main()
