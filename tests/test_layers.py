"""Layers that can be left out, exchanged or put otherwise: sections 2.4 and 9, guarantee (e)."""

import random
import unittest
from itertools import permutations

from samepictures.errors import InvalidDrawing, InvalidIndex
from samepictures.forms import form, same
from samepictures.layers import can_dissolve, exchangeable, is_clip_needless, needless, sequences, thinned
from tests.making import make_drawing, make_layer, make_matrix
from tests.model_edges import lead, model_form
from tests.samples import FILL, Q, RUB, SAME, SQUARE, T, TRIANGLE, WRONG, fill, group, square

LOW, HIGH = fill(square(0, 3)), fill(square(5, 8), colour=(0, 1, 0))
GLASS = fill(square(2, 6), colour=(0, 0, 9), opacity=(1, 2))
WHOLE_RUB = ("rub", ("odd", (square(0, 9),)), (1, 1))
WRONG_INDICES = [
    -1, 4, 99, -99, 10 ** 40, True, False, None, 0.0, 1.0, 0.5, "", "0", "index", (), (0,), [], [0], {}, {0: 0}, b"0", T, FILL,
]


def place_shape(shape, matrix):
    return (shape[0], tuple([tuple([lead(matrix, point) for point in loop]) for loop in shape[1]]))


def followed(outer, inner):
    """Return the matrix that leads as the inner one and then as the outer one, from where it leads three points."""
    origin, across, up = [lead(outer, lead(inner, point)) for point in ((0, 0), (1, 0), (0, 1))]
    return (
        across[0] - origin[0], across[1] - origin[1], up[0] - origin[0], up[1] - origin[1], *origin,
    )


def place(layer, matrix):
    """Return the layer, led by a matrix; what groups do themselves stays."""
    if layer[0] == "group":
        return (*layer[:4], followed(matrix, layer[4]))
    return (layer[0], place_shape(layer[1], matrix), *layer[2:])


def dissolved(drawing, index):
    layers = [place(layer, drawing[index][4]) for layer in drawing[index][1]]
    return (*drawing[:index], *layers, *drawing[index + 1:])


def unclipped(drawing, index):
    kind, layers, opacity, _, matrix = drawing[index]
    return (*drawing[:index], (kind, layers, opacity, None, matrix), *drawing[index + 1:])


def in_order(drawing, order):
    return tuple([drawing[number] for number in order])


def without(drawing, number):
    return drawing[:number] + drawing[number + 1:]


class OrderTest(unittest.TestCase):
    def check(self, drawing):
        """Compare all four functions with forms of drawings without layers and with layers put otherwise."""
        whole = form(drawing)
        numbers = range(len(drawing))
        self.assertEqual(needless(drawing), tuple(k for k in numbers if form(without(drawing, k)) == whole), drawing)
        staying = list(numbers)
        for k in numbers:
            fewer = [number for number in staying if number != k]
            if form(in_order(drawing, fewer)) == whole:
                staying = fewer
        self.assertEqual(thinned(drawing), in_order(drawing, staying), drawing)
        orders = [order for order in permutations(numbers) if form(in_order(drawing, order)) == whole]
        self.assertEqual(sequences(drawing), tuple(orders), drawing)
        swaps = [(*numbers[:k], k + 1, k, *numbers[k + 2:]) for k in numbers[:-1]]
        self.assertEqual(exchangeable(drawing), tuple(k for k, order in enumerate(swaps) if order in orders), drawing)

    def test_no_layers(self):
        self.assertEqual(needless(()), ())
        self.assertEqual(thinned(()), ())
        self.assertEqual(exchangeable(()), ())
        self.assertEqual(sequences(()), ((),))

    def test_one_layer(self):
        for drawing, left_out in ((T, False), (Q, False), ((RUB,), True), ((group(()),), True), ((group(T),), False)):
            self.assertEqual(needless(drawing), (0,) if left_out else ())
            self.assertEqual(thinned(drawing), () if left_out else drawing)
            self.assertEqual(exchangeable(drawing), ())
            self.assertEqual(sequences(drawing), ((0,),))

    def test_needless(self):
        cover = fill(square(-1, 4), colour=(0, 0, 1))
        for drawing, expected in (
            ((LOW, cover), (0,)), ((cover, LOW), ()), ((LOW, LOW), (0, 1)), ((LOW, LOW, LOW), (0, 1, 2)),
            ((GLASS, GLASS), ()), ((HIGH, RUB), (1,)), ((LOW, HIGH, WHOLE_RUB, LOW), (0, 1)),
            ((RUB, LOW), (0,)), ((LOW, RUB), ()), ((LOW, WHOLE_RUB), (0,)),
            ((LOW, group(()), GLASS, RUB), (1,)), ((GLASS, LOW, GLASS), ()), ((HIGH, LOW, cover, HIGH), (0, 1, 3)),
        ):
            self.assertEqual(needless(drawing), expected, drawing)
            self.check(drawing)

    def test_thinned(self):
        self.assertEqual(thinned((LOW, LOW)), (LOW,))
        small = fill(square(1, 2))
        # Each can be left out by itself, but not both.
        one, other = fill(square(0, 3)), fill(((0, 0), (3, 0), (3, 3), (0, 3)))
        self.assertEqual(thinned((one, other, small)), (other,))
        self.assertEqual(thinned((one, small, other)), (other,))
        self.assertEqual(needless((one, small, other)), (0, 1, 2))
        self.assertEqual(thinned((LOW, WHOLE_RUB)), ())
        self.assertEqual(needless((LOW, WHOLE_RUB)), (0,))
        self.assertEqual(thinned((LOW, RUB, RUB)), (LOW, RUB, RUB))
        # The first rub is needless only when what it rubs out has been left out.
        cover = fill(square(0, 9))
        self.assertEqual(thinned((HIGH, WHOLE_RUB, cover, RUB)), (cover, RUB))

    def test_exchangeable(self):
        for drawing, expected in (
            ((LOW, HIGH), (0,)), ((LOW, GLASS), ()), ((LOW, HIGH, GLASS), (0,)), ((GLASS, GLASS), (0,)), ((RUB, RUB), (0,)),
            ((RUB, HIGH, LOW), (0, 1)), ((LOW, RUB), ()), ((LOW, LOW[:3] + ((1, 2),)), (0,)),
        ):
            self.assertEqual(exchangeable(drawing), expected, drawing)
            self.check(drawing)
        # Two colours without anything seen through them show the upper one, unless something covers both.
        blue = fill(square(0, 3), colour=(0, 0, 1))
        self.assertEqual(exchangeable((LOW, blue)), ())
        self.assertEqual(exchangeable((LOW, blue, fill(square(0, 3), colour=(1, 1, 1)))), (0,))

    def test_sequences(self):
        self.assertEqual(sequences((LOW, HIGH)), ((0, 1), (1, 0)))
        self.assertEqual(sequences((LOW, GLASS)), ((0, 1),))
        self.assertEqual(sequences((LOW, LOW, LOW)), tuple(permutations(range(3))))
        self.assertEqual(len(sequences((FILL, FILL, FILL, FILL))), 24)
        self.assertEqual(sequences((LOW, HIGH, GLASS)), ((0, 1, 2), (1, 0, 2)))
        white = fill(square(0, 3), colour=(1, 1, 1))
        self.assertEqual(sequences((white, GLASS, white)), ((0, 1, 2), (1, 0, 2), (1, 2, 0), (2, 1, 0)))

    def test_groups(self):
        rubbing = group((LOW, RUB), (1, 2))
        for drawing in ((rubbing, RUB), (RUB, rubbing), (LOW, rubbing, HIGH), (group((RUB,)), GLASS), (rubbing, rubbing),
                        (group(T, clip=("odd", (square(5, 6),))), *Q, *T)):
            self.check(drawing)

    def test_chance(self):
        chance = random.Random(31)
        told = [0, 0, 0]
        for k in range(150):
            drawing = make_drawing(chance, (1, 2, 3)[k % 3])
            if k % 2 and drawing:
                drawing = (drawing * 3)[:chance.randint(2, 3)]
            try:
                self.check(drawing)
            except InvalidDrawing:
                continue
            for n, function in enumerate((needless, exchangeable, sequences)):
                told[n] += len(drawing) > 2 and len(function(drawing)) not in (0, len(drawing), 24)
        self.assertGreater(min(told), 10)

    def test_wrong_drawings(self):
        for value in WRONG:
            for function in (needless, thinned, exchangeable, sequences):
                with self.assertRaises(InvalidDrawing, msg=value):
                    function(value)


class GroupTest(unittest.TestCase):
    def dissolves(self, drawing, index, expected):
        self.assertIs(can_dissolve(drawing, index), expected, drawing)
        self.assertEqual(model_form(dissolved(drawing, index)) == model_form(drawing), expected)

    def clips(self, drawing, index, expected):
        self.assertIs(is_clip_needless(drawing, index), expected, drawing)
        self.assertEqual(form(unclipped(drawing, index)) == form(drawing), expected)

    def test_plain_groups(self):
        for drawing, index in (((group(()),), 0), ((group(T),), 0), ((LOW, group((HIGH, GLASS)), GLASS), 1)):
            self.dissolves(drawing, index, True)
            self.clips(drawing, index, True)
        self.dissolves((RUB, LOW, group((group((LOW, GLASS)),))), 2, True)

    def test_opacity(self):
        self.dissolves((group(T, (1, 2)),), 0, False)
        self.dissolves((group(T, (2, 2)),), 0, True)
        self.dissolves((group((RUB,), (1, 2)),), 0, True)
        self.dissolves((group(T, (1, 2)), fill(square(-1, 3))), 0, True)

    def test_rubs(self):
        self.dissolves((LOW, group((RUB,))), 1, False)
        self.dissolves((HIGH, group((RUB,))), 1, True)
        self.dissolves((group((RUB, LOW)),), 0, True)
        self.dissolves((group((LOW, RUB)),), 0, True)
        self.dissolves((LOW, group((LOW, RUB))), 1, False)
        self.dissolves((GLASS, group((LOW, ("rub", ("odd", (square(7, 9),)), (1, 2))))), 1, True)
        # A rub over all of a group that covers nothing else.
        self.dissolves((group((LOW, WHOLE_RUB)), HIGH), 0, True)
        self.dissolves((HIGH, group((LOW, WHOLE_RUB))), 1, False)

    def test_clips(self):
        part = ("odd", (square(1, 2),))
        self.dissolves((group((LOW,), clip=part),), 0, False)
        self.clips((group((LOW,), clip=part),), 0, False)
        around = ("odd", (square(0, 3),))
        self.dissolves((group((LOW,), clip=around),), 0, True)
        self.clips((group((LOW,), clip=around),), 0, True)
        self.clips((group((LOW,), (1, 3), around, (2, 1, -1, 1, 4, 4)),), 0, True)
        self.dissolves((group((LOW,), (1, 3), around, (2, 1, -1, 1, 4, 4)),), 0, False)
        # What lies above hides what the clip takes away, or what lies below is the same.
        self.clips((group((LOW,), clip=part), fill(square(0, 3), colour=(0, 0, 1))), 0, True)
        self.clips((LOW, group((LOW,), clip=part)), 1, True)
        self.clips((fill(square(0, 2)), group((LOW,), clip=part)), 1, False)
        self.clips((group((RUB,), clip=part), LOW), 0, True)
        self.clips((group((group((LOW,)),), clip=part), LOW), 0, True)
        self.clips((group((HIGH, LOW), clip=part), LOW), 0, False)
        self.clips((group((group((LOW,), clip=part),)),), 0, True)

    def test_matrices(self):
        for matrix in ((2, 1, -1, 1, 9, -9), (-2, 0, 0, 2, 9, 9), (0, 1, 1, 0, -3, 4)):
            self.dissolves((group((LOW, HIGH), matrix=matrix), GLASS), 0, True)
            inner = group((LOW, GLASS), (1, 2), TRIANGLE, matrix)
            self.dissolves((RUB, group((inner, HIGH), matrix=(1, 0, 0, 2, 9, -9))), 1, True)
            # The rub, led to where LOW is, weakens it only when it is no longer in the group.
            self.dissolves((LOW, group((inner, RUB), matrix=(2, 0, 0, 2, -1, -1))), 1, False)

    def test_points_beyond_9(self):
        far = group((fill(square(5, 9)), ("rub", ("odd", (square(6, 8),)), (1, 2))), matrix=(2, 0, 0, 2, 9, 9))
        self.dissolves((LOW, far), 1, True)
        self.dissolves((group((fill(square(6, 7)),), matrix=(2, 0, 0, 2, 9, 9)), far), 1, False)
        self.dissolves((group((far,), matrix=(2, 0, 0, 2, 9, 9)),), 0, True)

    def test_chance(self):
        chance = random.Random(32)
        told = {True: 0, False: 0}
        clips = {True: 0, False: 0}
        while sum(told.values()) < 120:
            inner = tuple([make_layer(chance, 2, 1) for _ in range(chance.randint(1, 2))])
            clip = TRIANGLE if chance.random() < 0.5 else None
            opacity = (1, 1) if chance.random() < 0.7 else (1, 2)
            matrix = make_matrix(chance)[:4] + (0, 0) if chance.random() < 0.7 else SAME
            layer = group(inner, opacity, clip, matrix)
            below = (make_layer(chance, 2, 0),) if chance.random() < 0.5 else ()
            above = (fill(square(-3, 3)),) if chance.random() < 0.3 else ()
            drawing = (*below, layer, *above)
            try:
                whole = form(drawing)
            except InvalidDrawing:
                continue
            index = len(below)
            found = can_dissolve(drawing, index)
            self.assertEqual(found, model_form(dissolved(drawing, index)) == whole, drawing)
            told[found] += 1
            found = is_clip_needless(drawing, index)
            self.assertEqual(found, form(unclipped(drawing, index)) == whole, drawing)
            clips[found] += 1
        self.assertGreater(min([*told.values(), *clips.values()]), 20)

    def test_wrong_indices(self):
        drawing = (group(T), FILL, RUB, group(Q))
        for function in (can_dissolve, is_clip_needless):
            for index in WRONG_INDICES + [1, 2]:
                with self.assertRaises(InvalidIndex, msg=index):
                    function(drawing, index)
            for index in (0, 3):
                self.assertIs(function(drawing, index), True)
            for index in (0, -1, None):
                with self.assertRaises(InvalidIndex):
                    function((), index)
            with self.assertRaises(InvalidIndex):
                function((FILL,), 0)
            with self.assertRaises(InvalidIndex):
                function((group(T),), 1)

    def test_wrong_drawings(self):
        for value in WRONG:
            for function in (can_dissolve, is_clip_needless):
                for index in (0, -1, None):
                    with self.assertRaises(InvalidDrawing, msg=value):
                        function(value, index)


class ArgumentsTest(unittest.TestCase):
    def test_equal_arguments_give_equal_results(self):
        drawing = (LOW, group((GLASS, RUB), (1, 2), SQUARE, (1, 1, 0, 1, 0, 0)), HIGH)
        for function in (needless, thinned, exchangeable, sequences):
            self.assertEqual(function(drawing), function((LOW, drawing[1], HIGH)))


if __name__ == "__main__":
    unittest.main()
