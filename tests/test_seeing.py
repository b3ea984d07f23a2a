"""What is painted at a point: sections 2.1 to 2.5 and 6."""

import random
import unittest

from samepictures.errors import InvalidDrawing, InvalidPoint, OnEdge
from samepictures.seeing import painted
from tests.making import make_drawing
from tests.model import model
from tests.samples import (
    FAR, FILL, NOTHING, Q, SAME, SQUARE, T, TRIANGLE, V, WRONG, WRONG_FRACTIONS, WRONG_POINTS, at, fill, fill_of, group, solid,
    square,
)

RED = solid(1, 0, 0)


class PaintedTest(unittest.TestCase):
    def test_example(self):
        self.assertEqual(painted(T, ((1, 2), (1, 2))), V)

    def test_nothing(self):
        self.assertEqual(painted((), at(0, 0)), NOTHING)
        self.assertEqual(painted(T, at(2, 2)), NOTHING)
        self.assertEqual(painted((group(()),), at(0, 0)), NOTHING)
        self.assertEqual(painted((group((), (1, 2), SQUARE),), at(1, 1)), NOTHING)

    def test_points_just_inside_and_outside(self):
        tiny = FAR - 1
        for point in (((1, FAR), (1, FAR)), ((1, 1), (tiny, FAR)), ((1, FAR), (1, 1)), ((tiny, FAR), (1, 1))):
            self.assertEqual(painted(T, point), V, point)
        beyond = (FAR // 2 + 1, FAR // 2 - 1)
        for point in (((-1, FAR), (1, 1)), ((1, 1), (-1, FAR)), ((1, 1), beyond), ((-1, FAR), (-1, FAR))):
            self.assertEqual(painted(T, point), NOTHING, point)

    def test_far_points(self):
        for x in (-FAR, FAR, 0, 1):
            for y in (-FAR, FAR):
                self.assertEqual(painted(Q, ((x, 1), (y, 1))), NOTHING)
                self.assertEqual(painted(Q, ((y, 1), (x, 1))), NOTHING)
        self.assertEqual(painted(Q, ((FAR - 1, FAR), (FAR - 3, FAR - 1))), V)

    def test_rules(self):
        twice = fill(square(0, 4), square(1, 3))
        self.assertEqual(painted((twice,), at(1, 1, 2)), RED)
        self.assertEqual(painted((twice,), at(2, 2)), NOTHING)
        turns = fill(square(0, 4), square(1, 3), rule="turns")
        self.assertEqual(painted((turns,), at(2, 2)), RED)
        against = fill(square(0, 4), square(1, 3)[::-1], rule="turns")
        self.assertEqual(painted((against,), at(1, 1, 2)), RED)
        self.assertEqual(painted((against,), at(2, 2)), NOTHING)
        back = fill(square(0, 4)[::-1], rule="turns")
        self.assertEqual(painted((back,), at(2, 2)), RED)
        thrice = fill(square(0, 4), square(0, 4), square(0, 4))
        self.assertEqual(painted((thrice,), at(2, 2)), RED)

    def test_loops_laid_twice(self):
        for rule, second, expected in (
            ("odd", square(0, 4), NOTHING), ("turns", square(0, 4), RED),
            ("odd", square(0, 4)[::-1], NOTHING), ("turns", square(0, 4)[::-1], NOTHING),
        ):
            self.assertEqual(painted((fill(square(0, 4), second, rule=rule),), at(2, 2)), expected)
            around = (*square(0, 4), *second)
            self.assertEqual(painted((fill(around, rule=rule),), at(2, 2)), expected)

    def test_a_loop_that_crosses_itself(self):
        star = ((0, 3), (-2, -3), (3, 1), (-3, 1), (2, -3))
        self.assertEqual(painted((fill(star),), at(0, 0)), NOTHING)
        self.assertEqual(painted((fill(star, rule="turns"),), at(0, 0)), RED)
        self.assertEqual(painted((fill(star),), at(0, 2)), RED)
        eight = ((0, 0), (2, 2), (2, 0), (0, 2))
        for rule in ("odd", "turns"):
            self.assertEqual(painted((fill(eight, rule=rule),), at(1, 2, 2)), RED)
            self.assertEqual(painted((fill(eight, rule=rule),), at(3, 2, 2)), RED)
            self.assertEqual(painted((fill(eight, rule=rule),), at(2, 1, 2)), NOTHING)

    def test_corners_on_the_level_of_the_point(self):
        diamond = fill(((0, 1), (1, 0), (2, 1), (1, 2)))
        self.assertEqual(painted((diamond,), at(1, 1)), RED)
        self.assertEqual(painted((diamond,), at(-1, 1)), NOTHING)
        self.assertEqual(painted((diamond,), at(3, 1)), NOTHING)
        self.assertEqual(painted((diamond,), at(0, 0)), NOTHING)
        self.assertEqual(painted((diamond,), at(0, 2)), NOTHING)
        step = fill(((0, 0), (2, 0), (2, 1), (4, 1), (4, 2), (0, 2)))
        self.assertEqual(painted((step,), at(1, 1)), RED)
        self.assertEqual(painted((step,), at(-1, 1)), NOTHING)
        self.assertEqual(painted((step,), at(-1, 0)), NOTHING)
        self.assertEqual(painted((step,), at(-1, 2)), NOTHING)

    def test_fills(self):
        half = fill(square(0, 4), colour=(2, 4, 9), opacity=(1, 2))
        self.assertEqual(painted((half,), at(1, 1)), ((1, 2), (1, 1), (2, 1), (9, 2)))
        same = fill(square(0, 4), colour=(2, 4, 9), opacity=(3, 6))
        self.assertEqual(painted((same,), at(1, 1)), ((1, 2), (1, 1), (2, 1), (9, 2)))
        upper = fill(square(2, 6), colour=(0, 3, 1), opacity=(1, 3))
        self.assertEqual(painted((half, upper), at(3, 3)), ((2, 3), (2, 3), (7, 3), (10, 3)))
        self.assertEqual(painted((upper, half), at(3, 3)), ((2, 3), (1, 1), (5, 2), (14, 3)))
        self.assertEqual(painted((half, upper), at(5, 5)), ((1, 3), (0, 1), (1, 1), (1, 3)))
        cover = fill(square(0, 4), colour=(7, 8, 9))
        self.assertEqual(painted((half, cover), at(1, 1)), solid(7, 8, 9))

    def test_black_is_not_nothing(self):
        black = fill(square(0, 4), colour=(0, 0, 0), opacity=(2, 3))
        self.assertEqual(painted((black,), at(1, 1)), ((2, 3), (0, 1), (0, 1), (0, 1)))

    def test_rubs(self):
        lower = fill(square(0, 4), colour=(3, 0, 9))
        rub = ("rub", ("odd", (square(1, 6),)), (1, 3))
        self.assertEqual(painted((lower, rub), at(3, 3)), ((2, 3), (2, 1), (0, 1), (6, 1)))
        self.assertEqual(painted((lower, rub), at(1, 1, 2)), solid(3, 0, 9))
        self.assertEqual(painted((lower, rub), at(5, 5)), NOTHING)
        self.assertEqual(painted((rub, lower), at(3, 3)), solid(3, 0, 9))
        whole = ("rub", ("odd", (square(1, 6),)), (6, 6))
        self.assertEqual(painted((lower, whole), at(3, 3)), NOTHING)

    def test_a_rub_stays_in_its_group(self):
        lower = fill(square(0, 4), colour=(3, 0, 9))
        rub = ("rub", ("odd", (square(0, 6),)), (1, 2))
        self.assertEqual(painted((lower, group((rub,))), at(3, 3)), solid(3, 0, 9))
        inner = group((fill(square(0, 4), colour=(1, 1, 1)), rub))
        self.assertEqual(painted((lower, inner), at(3, 3)), ((1, 1), (2, 1), (1, 2), (5, 1)))
        self.assertEqual(painted((inner, rub), at(3, 3)), ((1, 4), (1, 4), (1, 4), (1, 4)))
        deep = group((fill(square(0, 4), colour=(1, 1, 1)), group((rub,))))
        self.assertEqual(painted((lower, deep), at(3, 3)), solid(1, 1, 1))

    def test_opacity_of_groups(self):
        two = (fill(square(0, 4), colour=(4, 0, 0)), fill(square(0, 2), colour=(0, 4, 0)))
        self.assertEqual(painted((group(two, (1, 2)),), at(1, 1)), ((1, 2), (0, 1), (2, 1), (0, 1)))
        lower = fill(square(0, 4), colour=(8, 8, 8))
        self.assertEqual(painted((lower, group(two, (1, 2))), at(1, 1)), solid(4, 6, 4))
        self.assertEqual(painted((lower, group(two, (2, 4))), at(3, 3)), solid(6, 4, 4))
        nest = group((group(two, (1, 2)),), (1, 3))
        self.assertEqual(painted((nest,), at(1, 1)), ((1, 6), (0, 1), (2, 3), (0, 1)))

    def test_clips(self):
        layers = (fill(square(0, 4), colour=(4, 0, 0)),)
        drawing = (fill(square(0, 6), colour=(0, 0, 2)), group(layers, (1, 1), ("odd", (square(2, 5),))))
        self.assertEqual(painted(drawing, at(3, 3)), solid(4, 0, 0))
        self.assertEqual(painted(drawing, at(1, 1)), solid(0, 0, 2))
        self.assertEqual(painted(drawing, at(9, 9, 2)), solid(0, 0, 2))
        ring = (group(layers, (1, 1), ("odd", (square(0, 5), square(1, 3)))),)
        self.assertEqual(painted(ring, at(2, 2)), NOTHING)
        self.assertEqual(painted(ring, at(1, 1, 2)), solid(4, 0, 0))

    def test_matrices(self):
        layers = (fill(((0, 0), (2, 0), (0, 4)), colour=(4, 0, 0)),)
        # (x, y) goes to (2 * x - y + 3, x + y - 5).
        moved = group(layers, matrix=(2, 1, -1, 1, 3, -5))
        self.assertEqual(painted((moved,), ((3, 1), (-4, 1))), solid(4, 0, 0))
        self.assertEqual(painted((moved,), ((4, 1), (-3, 1))), solid(4, 0, 0))
        self.assertEqual(painted((moved,), ((0, 1), (-3, 2))), solid(4, 0, 0))
        self.assertEqual(painted((moved,), ((6, 1), (-5, 1))), NOTHING)
        self.assertEqual(painted((moved,), ((1, 1), (1, 1))), NOTHING)
        for point in (((3, 1), (-5, 1)), ((7, 1), (-3, 1)), ((-1, 1), (-1, 1)), ((5, 1), (-4, 1)), ((1, 1), (-3, 1))):
            with self.assertRaises(OnEdge):
                painted((moved,), point)

    def test_a_matrix_leads_the_clip_too(self):
        layers = (fill(square(0, 4), colour=(4, 0, 0)),)
        moved = (group(layers, (1, 1), ("odd", (square(2, 5),)), (1, 0, 0, 1, 9, 9)),)
        self.assertEqual(painted(moved, at(12, 12)), solid(4, 0, 0))
        self.assertEqual(painted(moved, at(10, 10)), NOTHING)
        self.assertEqual(painted(moved, at(3, 3)), NOTHING)

    def test_mirrors_keep_what_is_inside(self):
        for matrix in ((-1, 0, 0, 1, 0, 0), (0, 1, 1, 0, 0, 0), (1, 0, 0, -1, 0, 0), (-1, 0, 0, -1, 0, 0)):
            for rule in ("odd", "turns"):
                drawing = (group((fill(square(-2, 2), rule=rule),), matrix=matrix),)
                self.assertEqual(painted(drawing, at(1, 1)), RED)

    def test_matrices_of_groups_around(self):
        layers = (fill(((1, 0), (2, 0), (2, 1), (1, 1))),)
        # The inner one is followed by the outer one: (x, y) to (x + 3, y) to (-y, x + 3).
        inner = group(layers, matrix=(1, 0, 0, 1, 3, 0))
        drawing = (group((inner,), matrix=(0, 1, -1, 0, 0, 0)),)
        self.assertEqual(painted(drawing, at(-1, 9, 2)), RED)
        self.assertEqual(painted(drawing, at(1, 9, 2)), NOTHING)
        self.assertEqual(painted(drawing, at(9, 1, 2)), NOTHING)
        # The other way round: (x, y) to (-y, x) to (-y + 3, x).
        turned = group(layers, matrix=(0, 1, -1, 0, 0, 0))
        drawing = (group((turned,), matrix=(1, 0, 0, 1, 3, 0)),)
        self.assertEqual(painted(drawing, at(5, 3, 2)), RED)
        self.assertEqual(painted(drawing, at(-1, 9, 2)), NOTHING)

    def test_against_the_model(self):
        chance = random.Random(11)
        met = shown = 0
        for _ in range(900):
            drawing = make_drawing(chance, chance.choice((2, 4, 9)))
            for _ in range(6):
                bottom = chance.choice((1, 1, 2, 3, 7, 10 ** 12 + 39))
                reach = chance.choice((2, 4, 12)) * bottom
                point = at(chance.randint(-reach, reach), chance.randint(-reach, reach), bottom)
                expected = model(drawing, point)
                if expected is None:
                    met += 1
                    with self.assertRaises(OnEdge):
                        painted(drawing, point)
                else:
                    self.assertEqual(painted(drawing, point), expected, (drawing, point))
                    shown = shown + (expected != NOTHING)
        self.assertGreater(met, 100)
        self.assertGreater(shown, 400)


class OnEdgeTest(unittest.TestCase):
    def on(self, drawing, point):
        with self.subTest(point=point):
            with self.assertRaises(OnEdge):
                painted(drawing, point)

    def test_edges_of_a_triangle(self):
        for point in (at(0, 0), at(2, 0), at(0, 2), at(1, 0), at(0, 1), at(1, 1), ((1, 3), (5, 3)), ((1, FAR), (0, 1))):
            self.on(T, point)
        self.on(T, ((FAR // 2 - 1, FAR // 2), (FAR // 2 + 1, FAR // 2)))

    def test_beside_an_edge(self):
        for point in (((1, 1), (1, FAR)), ((1, FAR), (1, 1)), ((1, 1), (FAR - 1, FAR)), ((1, 3), (5 * 10 ** 28, 3 * 10 ** 28 + 1))):
            self.assertEqual(painted(T, point), V, point)
        for point in (((1, 1), (-1, FAR)), ((-1, FAR), (1, 1)), ((1, 1), (FAR, FAR - 1)), ((1, 3), (5 * 10 ** 28, 3 * 10 ** 28 - 1))):
            self.assertEqual(painted(T, point), NOTHING, point)

    def test_beyond_the_ends(self):
        for point in (at(3, 0), at(-1, 0), at(0, 3), at(0, -1), at(3, -1), at(-1, 3), ((FAR, 1), (2 - FAR, 1)),
                      ((FAR, 1), (0, 1)), ((-1, FAR), (0, 1)), ((0, 1), (-1, FAR))):
            self.assertEqual(painted(T, point), NOTHING, point)

    def test_the_edge_from_the_last_point_to_the_first_one(self):
        self.on((fill(((0, 0), (4, 0), (4, 4))),), at(2, 2))
        self.on((fill(((0, 0), (4, 0), (4, 4))),), at(1, 1))

    def test_edges_of_rubs(self):
        rub = ("rub", TRIANGLE, (1, 2))
        self.on((rub,), at(1, 0))
        self.on((FILL, rub), at(1, 1))
        self.on((rub, fill(square(-3, 3))), at(1, 0))
        self.assertEqual(painted((rub, fill(square(-3, 3))), at(-1, 0)), RED)

    def test_edges_of_clips(self):
        clip = ("odd", (square(5, 7),))
        self.on((group((), (1, 1), clip),), at(5, 6))
        self.on((group(T, (1, 1), clip),), at(7, 7))
        self.on((group(T, (1, 1), clip),), at(1, 0))
        self.assertEqual(painted((group(T, (1, 1), clip),), at(1, 1, 2)), NOTHING)

    def test_edges_where_nothing_changes(self):
        self.on((fill(square(0, 4), square(0, 4)),), at(0, 2))
        self.on((fill(((0, 0), (4, 0), (0, 0), (4, 0))),), at(2, 0))
        self.on((fill(square(0, 4), ((0, 2), (4, 2), (2, 2)), rule="turns"),), at(1, 2))
        self.on((fill(square(0, 4), ((0, 2), (4, 2), (2, 2)), rule="turns"),), at(3, 2))
        self.on((fill(((0, 0), (4, 0), (2, 0)), opacity=(1, 2)),), at(1, 0))

    def test_hidden_edges(self):
        self.on((FILL, fill(square(-5, 5))), at(1, 0))
        self.on((fill(square(-5, 5)), fill(square(0, 1))), at(1, 1, 1))
        self.on((FILL, ("rub", ("odd", (square(-5, 5),)), (1, 1))), at(1, 0))

    def test_edges_between_equal_points(self):
        dot = ((1, 1), (1, 1), (1, 1))
        self.assertEqual(painted((fill(dot),), at(1, 1)), NOTHING)
        self.assertEqual(painted((fill(square(0, 4), dot),), at(1, 1)), RED)
        self.assertEqual(painted((fill(square(0, 4)), ("rub", ("turns", (dot,)), (1, 1))), at(1, 1)), RED)
        moved = (fill(square(0, 4)), group((fill(dot, colour=(5, 5, 5)),), (1, 1), ("odd", (dot,)), (2, 0, 0, 2, 0, 0)))
        self.assertEqual(painted(moved, at(2, 2)), RED)
        thick = ((0, 0), (0, 0), (4, 0), (4, 0), (4, 4), (4, 4), (0, 4), (0, 4))
        self.assertEqual(painted((fill(thick),), at(2, 2)), RED)
        self.on((fill(thick),), at(4, 4))
        self.on((fill(thick),), at(0, 0))

    def test_edges_led_by_matrices(self):
        # (x, y) goes to (-y - 9, 2 * x + 9).
        moved = (group(T, matrix=(0, 2, -1, 0, -9, 9)),)
        for point in (at(-9, 9), at(-9, 13), at(-11, 9), at(-10, 11), at(-9, 10), ((-19, 2), (9, 1))):
            self.on(moved, point)
        for point in (at(0, 0), at(1, 0), at(1, 1)):
            self.assertEqual(painted(moved, point), NOTHING)
        self.assertEqual(painted(moved, at(-19, 20, 2)), V)
        around = (group(moved, matrix=(1, 0, 0, 1, 9, -9)),)
        for point in (at(0, 0), at(0, 4), at(-2, 0), at(-1, 2)):
            self.on(around, point)
        self.assertEqual(painted(around, at(-9, 9)), NOTHING)
        clipped = (group((group((), clip=TRIANGLE, matrix=(0, 2, -1, 0, -9, 9)),), matrix=(1, 0, 0, 1, 9, -9)),)
        for point in (at(0, 0), at(0, 4), at(-2, 0), at(-1, 2)):
            self.on(clipped, point)


class ArgumentsTest(unittest.TestCase):
    def test_wrong_drawings(self):
        for value in [*WRONG, FILL, SQUARE, (FILL,) * 5, (fill_of(8, 8, 5),) * 3, list(Q)]:
            for point in (at(0, 0), at(5, 5), None, (1, 1)):
                with self.assertRaises(InvalidDrawing):
                    painted(value, point)

    def test_wrong_points(self):
        for value in WRONG_POINTS:
            for drawing in ((), T, Q):
                with self.assertRaises(InvalidPoint):
                    painted(drawing, value)

    def test_wrong_fractions(self):
        for value in WRONG_FRACTIONS:
            for point in ((value, (5, 1)), ((5, 1), value), (value, value), ((0, 1), value)):
                with self.assertRaises(InvalidPoint):
                    painted(T, point)

    def test_fractions_at_the_bound(self):
        for value in ((FAR, 1), (-FAR, 1), (1, FAR), (-1, FAR), (FAR - 1, FAR), (FAR, FAR - 1), (1 - FAR, FAR)):
            self.assertEqual(painted((), (value, value)), NOTHING)
            self.assertEqual(painted(T, (value, (7, 2))), NOTHING)
            self.assertEqual(painted(T, ((7, 2), value)), NOTHING)

    def test_an_invalid_point_comes_ahead_of_an_edge(self):
        for point in ((True, (0, 1)), ((0, 2), (0, 1)), ((0, 1), (False, 1)), ((0, 1), (0, 1), (0, 1))):
            with self.assertRaises(InvalidPoint):
                painted(T, point)

    def test_equal_arguments_give_equal_results(self):
        point = ((1, 2), (1, 3))
        drawing = (group(T, (1, 3), SQUARE, SAME), FILL)
        self.assertEqual(painted(drawing, point), painted(drawing, point))


if __name__ == "__main__":
    unittest.main()
