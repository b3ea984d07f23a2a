"""Shapes, layers and drawings: sections 2.1 to 2.5 and 4."""

import copy
import unittest

from samepictures.drawings import count_points, is_drawing, is_layer, is_shape
from samepictures.errors import InvalidDrawing
from tests.samples import (
    FILL, NOTHING, Q, RUB, SAME, SQUARE, T, TRIANGLE, WRONG, fill_of, group, loop_of, shape_of,
)


def shape_with(pair):
    """Return a shape of one loop, with this pair as one of its points."""
    return ("turns", (((0, 0), pair, (1, 1)),))


class ShapesTest(unittest.TestCase):
    def check(self, good, bad):
        """Check values that are shapes and values that are not, also within fills, rubs and clips."""
        for values, expected in ((good, True), (bad, False)):
            for value in values:
                with self.subTest(value=value):
                    self.assertIs(is_shape(value), expected)
                    self.assertIs(is_layer(("fill", value, (1, 0, 0), (1, 2))), expected)
                    self.assertIs(is_layer(("rub", value, (1, 2))), expected)
                    self.assertIs(is_drawing((("rub", value, (1, 2)),)), expected)
                    if value is not None:
                        self.assertIs(is_layer(group((FILL,), clip=value)), expected)

    def test_rules(self):
        loops = TRIANGLE[1]
        self.check(
            [("odd", loops), ("turns", loops)],
            [("even", loops), ("Odd", loops), ("", loops), ("odd ", loops), (None, loops), (0, loops), (b"odd", loops),
             (("odd",), loops), (["odd"], loops), ({"odd": 1}, loops), (True, loops)],
        )

    def test_length_of_tuple(self):
        loops = TRIANGLE[1]
        self.check([], [("odd",), ("odd", loops, loops), (), (loops,), ("odd", loops, None), (loops, "odd")])

    def test_points_of_a_loop(self):
        self.check([shape_of(3), shape_of(4), shape_of(8)], [shape_of(2), shape_of(9), shape_of(1), shape_of(0)])
        self.check([shape_of(3, 8, 5)], [shape_of(3, 2), shape_of(8, 9), shape_of(3, 3, 9)])

    def test_number_of_loops(self):
        self.check([shape_of(3), shape_of(3, 3), shape_of(3, 3, 3)], [shape_of(), shape_of(3, 3, 3, 3)])

    def test_coordinates(self):
        good = [(9, 9), (-9, -9), (-9, 9), (0, 0)]
        bad = [(10, 0), (0, 10), (-10, 0), (0, -10), (10 ** 40, 0)]
        self.check([shape_with(pair) for pair in good], [shape_with(pair) for pair in bad])

    def test_kinds_of_coordinates(self):
        bad = [
            (True, 0), (0, False), (0, True), (1.0, 0), (0, 1.0), ("1", 0), (0, None), ((0, 1), (0, 1)), (0,), (0, 0, 0),
            [0, 0], (), None, 5, "00", {0: 0, 1: 1}, ([0], 0), ({}, 0),
        ]
        self.check([], [shape_with(pair) for pair in bad])

    def test_lists_in_the_place_of_tuples(self):
        loop = TRIANGLE[1][0]
        self.check([], [["odd", (loop,)], ("odd", [loop]), ("odd", (list(loop),)), ("odd", loop), ("odd", {loop: 1})])

    def test_equal_points(self):
        self.check([("odd", (((0, 0), (0, 0), (0, 0)),)), ("turns", (((1, 1), (1, 1), (2, 1), (2, 1)),))], [])

    def test_wrong_values(self):
        for value in [*WRONG, (), T, Q, FILL, RUB, group(T), NOTHING]:
            self.assertIs(is_shape(value), False, value)


class LayersTest(unittest.TestCase):
    def check(self, make, good, bad):
        """Check values that, put into a layer, make a layer, and values that do not."""
        for values, expected in ((good, True), (bad, False)):
            for value in values:
                with self.subTest(value=value):
                    self.assertIs(is_layer(make(value)), expected)
                    self.assertIs(is_drawing((make(value),)), expected)
                    self.assertIs(is_drawing((FILL, group((make(value),)))), expected)

    def test_colours(self):
        good = [(0, 0, 0), (9, 9, 9), (1, 5, 9)]
        bad = [
            (-1, 0, 0), (0, -1, 0), (0, 0, -1), (10, 0, 0), (0, 10, 0), (0, 0, 10), (0, 0), (0, 0, 0, 0), (), None,
            (True, 0, 0), (0, False, 0), (0, 0, True), (1.0, 0, 0), ("1", 0, 0), [0, 0, 0], "000", 0, ((0,), 0, 0),
        ]
        self.check(lambda colour: ("fill", SQUARE, colour, (1, 2)), good, bad)

    def test_opacities(self):
        good = [(top, bottom) for bottom in range(1, 7) for top in range(1, bottom + 1)]
        bad = [
            (0, 1), (0, 6), (2, 1), (6, 5), (1, 7), (7, 7), (6, 7), (-1, 1), (1, -1), (-1, -1), (1, 0), (0, 0), (1,),
            (1, 2, 3), (), None, True, 1, 0.5, "1/2", [1, 2], (True, 1), (1, True), (True, True), (1.0, 2), ("1", "2"),
        ]
        self.check(lambda opacity: ("fill", SQUARE, (1, 0, 0), opacity), good, bad)
        self.check(lambda opacity: ("rub", SQUARE, opacity), good, bad)
        for values, expected in ((good, True), (bad, False)):
            for opacity in values:
                self.assertIs(is_layer(group(T, opacity)), expected, opacity)
                self.assertIs(is_drawing((group((group(T, opacity),)),)), expected, opacity)

    def test_matrices(self):
        good = [
            SAME, (2, 0, 0, 2, 9, 9), (-2, 0, 0, -2, -9, -9), (0, 1, 1, 0, 0, 0), (2, 1, 1, 1, 0, 0), (1, 2, -2, 1, 3, -4),
            (2, -2, 2, 2, 0, 0), (0, 2, -2, 0, 0, 0), (1, 1, 0, 1, 0, 0), (1, 0, 1, 1, 0, 0),
        ]
        singular = [
            (0, 0, 0, 0, 0, 0), (1, 1, 1, 1, 0, 0), (2, 1, 2, 1, 0, 0), (1, 0, 0, 0, 5, 5), (2, 2, 1, 1, 0, 0),
            (1, -1, -1, 1, 0, 0), (0, 1, 0, 1, 0, 0), (1, 2, -1, -2, 0, 0),
        ]
        far = [(3, 0, 0, 1, 0, 0), (1, 3, 0, 1, 0, 0), (1, 0, 3, 1, 0, 0), (1, 0, 0, 3, 0, 0), (-3, 0, 0, 1, 0, 0),
               (1, -3, 0, 1, 0, 0), (1, 0, -3, 1, 0, 0), (1, 0, 0, -3, 0, 0), (1, 0, 0, 1, 10, 0), (1, 0, 0, 1, 0, 10),
               (1, 0, 0, 1, -10, 0), (1, 0, 0, 1, 0, -10)]
        kinds = [
            (), None, 1, "100100", (1, 0, 0, 1), (1, 0, 0, 1, 0), (1, 0, 0, 1, 0, 0, 0), list(SAME), (1, 0, 0, "1", 0, 0),
            (1.0, 0, 0, 1, 0, 0), ((1, 0, 0), (1, 0, 0)), ((1, 0), (0, 1), (0, 0)), {k: 1 for k in range(6)},
        ]
        booleans = [(*SAME[:k], bool(SAME[k]), *SAME[k + 1:]) for k in range(6)]
        for values, expected in ((good, True), (singular + far + kinds + booleans, False)):
            for matrix in values:
                with self.subTest(matrix=matrix):
                    self.assertIs(is_layer(group(T, matrix=matrix)), expected)
                    self.assertIs(is_layer(group((group(T, matrix=matrix),))), expected)
                    self.assertIs(is_drawing((group(T, matrix=matrix),)), expected)

    def test_clips(self):
        self.assertTrue(is_layer(group(T, clip=None)))
        self.assertTrue(is_layer(group(T, clip=SQUARE)))
        for clip in (False, True, 0, "", "-", (), [], {}, FILL, T, (SQUARE,), list(SQUARE)):
            self.assertIs(is_layer(group(T, clip=clip)), False, clip)

    def test_number_of_layers_of_a_group(self):
        for many in range(5):
            self.assertIs(is_layer(group((FILL,) * many)), True, many)
            self.assertIs(is_layer(group((group((RUB,) * many),))), True, many)
        self.assertIs(is_layer(group((FILL,) * 5)), False)
        self.assertIs(is_layer(group((group((RUB,) * 5),))), False)

    def test_layers_of_a_group_are_a_tuple_of_layers(self):
        for layers in ([], [FILL], None, FILL, (None,), (FILL, None), (FILL, ()), ((FILL,),), "", {}, {0: FILL}, 0, True):
            self.assertIs(is_layer(group(layers)), False, layers)
            self.assertIs(is_layer(group((group(layers),))), False, layers)

    def test_depth_of_groups(self):
        two = group((group((FILL,)), RUB))
        three = group((two,))
        empty_three = group((group((group(()),)),))
        self.assertIs(is_layer(two), True)
        self.assertIs(is_drawing((two, two, FILL, two)), True)
        self.assertIs(is_layer(group((group((),),), clip=SQUARE)), True)
        for layer in (three, empty_three, group((FILL, FILL, three))):
            self.assertIs(is_layer(layer), False)
            self.assertIs(is_drawing((layer,)), False)
            self.assertIs(is_drawing((FILL, layer)), False)

    def test_lengths_of_tuples(self):
        for layer in (FILL, RUB, group(T), group((), clip=SQUARE)):
            self.assertIs(is_layer(layer), True)
            for k in range(len(layer)):
                self.assertIs(is_layer(layer[:k]), False, layer[:k])
                self.assertIs(is_layer((*layer[:k], *layer[k + 1:])), False)
            for more in (None, (), (1, 1), SAME):
                self.assertIs(is_layer((*layer, more)), False)
            self.assertIs(is_layer(list(layer)), False)

    def test_first_words(self):
        for word in ("Fill", "rub", "group", "", None, 0, True, b"fill", ("fill",), ["fill"], {"fill": 1}, "fill "):
            self.assertIs(is_layer((word, *FILL[1:])), False, word)
        for word in ("fill", "group", "Rub", None, ("rub",)):
            self.assertIs(is_layer((word, *RUB[1:])), False, word)
        for word in ("fill", "rub", "Group", None, ("group",)):
            self.assertIs(is_layer((word, *group(T)[1:])), False, word)

    def test_points_of_a_layer(self):
        sixty = (fill_of(8, 8, 4), fill_of(8, 8, 4), fill_of(8, 8, 4))
        self.assertIs(is_layer(group(sixty)), True)
        self.assertIs(is_layer(group((fill_of(8, 8, 5), *sixty[1:]))), False)
        self.assertIs(is_layer(group((*sixty[:2], fill_of(8, 3, 5)), clip=shape_of(4))), True)
        self.assertIs(is_layer(group((*sixty[:2], fill_of(8, 3, 5)), clip=shape_of(5))), False)
        self.assertIs(is_layer(group((*sixty, RUB))), False)

    def test_wrong_values(self):
        for value in [*WRONG, (), T, Q, SQUARE, (FILL,), (FILL, RUB), NOTHING]:
            self.assertIs(is_layer(value), False, value)


class DrawingsTest(unittest.TestCase):
    def test_ordinary_drawings(self):
        for value in ((), T, Q, (FILL, RUB), (RUB,), (group(()),), (group(T, (2, 6), SQUARE, (0, 1, 1, 0, -9, 9)), FILL)):
            self.assertIs(is_drawing(value), True, value)

    def test_number_of_layers(self):
        for many in range(5):
            self.assertIs(is_drawing((FILL,) * many), True)
        self.assertIs(is_drawing((FILL,) * 5), False)
        self.assertIs(is_drawing((group(()),) * 4), True)
        self.assertIs(is_drawing((group(()),) * 5), False)

    def test_points_together(self):
        big = fill_of(8, 8, 4)
        self.assertIs(is_drawing((big, big, big)), True)
        self.assertIs(is_drawing((big, big, fill_of(8, 8, 5))), False)
        self.assertIs(is_drawing((big, big, fill_of(8, 8), group((), clip=shape_of(4)))), True)
        self.assertIs(is_drawing((big, big, fill_of(8, 8), group((), clip=shape_of(5)))), False)
        self.assertIs(is_drawing((big, big, big, RUB)), False)
        self.assertIs(is_drawing((big, big, fill_of(8, 3), ("rub", shape_of(3, 3, 3), (1, 1)))), True)
        self.assertIs(is_drawing((big, big, fill_of(8, 3), ("rub", shape_of(3, 3, 4), (1, 1)))), False)
        inner = group((group((big,), clip=shape_of(3, 3)),), clip=shape_of(8, 6))
        self.assertIs(is_drawing((big, inner)), True)
        self.assertIs(is_drawing((fill_of(8, 8, 5), inner)), False)
        # Each layer is one by itself, but together they have too many points.
        self.assertTrue(is_layer(inner))
        self.assertIs(is_drawing((inner, inner)), False)

    def test_wrong_values(self):
        for value in [*WRONG, FILL, RUB, SQUARE, (None,), (FILL, None), (FILL, ()), (T,), [FILL], NOTHING, {0: FILL}]:
            self.assertIs(is_drawing(value), False, value)

    def test_a_wrong_layer_anywhere(self):
        wrong = ("rub", SQUARE, (2, 1))
        for k in range(4):
            layers = [FILL] * 4
            layers[k] = wrong
            self.assertIs(is_drawing(tuple(layers)), False)


class CountPointsTest(unittest.TestCase):
    def test_example(self):
        self.assertEqual(count_points(T), 3)

    def test_counts(self):
        self.assertEqual(count_points(()), 0)
        self.assertEqual(count_points((group(()),)), 0)
        self.assertEqual(count_points(Q), 4)
        self.assertEqual(count_points((FILL, RUB)), 6)
        self.assertEqual(count_points((fill_of(3, 4, 5), RUB)), 15)
        self.assertEqual(count_points((group(T, clip=SQUARE),)), 7)
        self.assertEqual(count_points((group((group(Q, clip=shape_of(5)), RUB), clip=shape_of(6, 7)), FILL)), 28)
        self.assertEqual(count_points((fill_of(8, 8, 4),) * 3), 60)

    def test_equal_points_count_each(self):
        self.assertEqual(count_points((("rub", ("odd", (((1, 1),) * 8,)), (1, 1)),)), 8)

    def test_wrong_drawings(self):
        for value in [*WRONG, FILL, SQUARE, (FILL,) * 5, (fill_of(8, 8, 5),) * 3, list(Q)]:
            with self.assertRaises(InvalidDrawing):
                count_points(value)

    def test_arguments_stay(self):
        value = [[(0, 0), [1, 2]], {"a": [1]}]
        before = copy.deepcopy(value)
        for function in (is_shape, is_layer, is_drawing):
            function(value)
        self.assertEqual(value, before)

    def test_loops_of_samples(self):
        self.assertEqual(len(loop_of(8)), 8)


if __name__ == "__main__":
    unittest.main()
