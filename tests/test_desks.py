"""Desks: section 13, guarantee (h)."""

import copy
import random
import unittest

from samepictures.changes import changed_area
from samepictures.desks import Desk
from samepictures.drawings import count_points, is_drawing
from samepictures.errors import InvalidDrawing, InvalidIndex, InvalidLayer, NothingToUndo, PictureError, TooMany
from tests.making import make_drawing, make_layer
from tests.samples import FILL, Q, RUB, SQUARE, T, TRIANGLE, V, WRONG, fill, fill_of, group, square

LOW, HIGH = fill(square(0, 3)), fill(square(5, 8), colour=(0, 1, 0))
COVER = fill(square(0, 4), colour=(0, 0, 1))
WRONG_INDICES = [
    -1, 99, -99, 10 ** 40, True, False, None, 0.0, 1.0, 0.5, "", "0", "index", (), (0,), [], [0], {}, {0: 0}, b"0", T, FILL,
    float("nan"),
]
NOTHING_CHANGED = (0, 1)


class Model:
    """The drawings through which a desk has gone, in a list, and the number of the present one."""

    def __init__(self, drawing):
        self.drawings = [drawing]
        self.at = 0

    def change(self, layers):
        self.drawings = [*self.drawings[:self.at + 1], tuple(layers)]
        return self.go(1)

    def go(self, step):
        before = self.drawings[self.at]
        self.at += step
        return changed_area(before, self.drawings[self.at])

    def layers(self):
        return list(self.drawings[self.at])


class ChangesTest(unittest.TestCase):
    def test_beginning(self):
        for drawing in ((), T, (LOW, HIGH, RUB, group(T))):
            desk = Desk(drawing)
            self.assertEqual(desk.drawing(), drawing)
            self.assertEqual(len(desk), 0)
            for function in (desk.undo, desk.redo):
                with self.assertRaises(NothingToUndo):
                    function()

    def test_put(self):
        desk = Desk(())
        self.assertEqual(desk.put(0, LOW), (9, 1))
        self.assertEqual(desk.drawing(), (LOW,))
        self.assertEqual(desk.put(1, HIGH), (9, 1))
        self.assertEqual(desk.drawing(), (LOW, HIGH))
        # Laid below, the layer is seen only where nothing lies over it.
        self.assertEqual(desk.put(0, COVER), (7, 1))
        self.assertEqual(desk.drawing(), (COVER, LOW, HIGH))
        # The rub weakens the cover alone, and over it lies what it does not reach.
        self.assertEqual(desk.put(1, RUB), NOTHING_CHANGED)
        self.assertEqual(len(desk), 4)

    def test_put_in_the_midst_and_at_both_ends(self):
        for index in range(4):
            desk = Desk((LOW, HIGH, RUB))
            layers = [LOW, HIGH, RUB]
            layers.insert(index, COVER)
            area = desk.put(index, COVER)
            self.assertEqual(desk.drawing(), tuple(layers))
            self.assertEqual(area, changed_area((LOW, HIGH, RUB), tuple(layers)))
        desk = Desk(T)
        self.assertEqual(desk.put(1, RUB), (2, 1))
        self.assertEqual(desk.put(0, RUB), NOTHING_CHANGED)
        self.assertEqual(desk.drawing(), (RUB, FILL, RUB))

    def test_take(self):
        desk = Desk((LOW, COVER, HIGH))
        self.assertEqual(desk.take(0), NOTHING_CHANGED)
        self.assertEqual(desk.drawing(), (COVER, HIGH))
        self.assertEqual(desk.take(1), (9, 1))
        self.assertEqual(desk.take(0), (16, 1))
        self.assertEqual(desk.drawing(), ())
        self.assertEqual(len(desk), 3)
        with self.assertRaises(InvalidIndex):
            desk.take(0)

    def test_exchange(self):
        desk = Desk((LOW, COVER, HIGH))
        self.assertEqual(desk.exchange(0), (9, 1))
        self.assertEqual(desk.drawing(), (COVER, LOW, HIGH))
        self.assertEqual(desk.exchange(1), NOTHING_CHANGED)
        self.assertEqual(desk.drawing(), (COVER, HIGH, LOW))
        self.assertEqual(len(desk), 2)
        alike = Desk((LOW, LOW))
        self.assertEqual(alike.exchange(0), NOTHING_CHANGED)
        self.assertEqual(len(alike), 1)

    def test_undo_and_redo(self):
        desk = Desk(T)
        drawings, areas = [T], []
        for change, arguments in ((desk.put, (1, COVER)), (desk.exchange, (0,)), (desk.put, (0, HIGH)), (desk.take, (1,))):
            areas.append(change(*arguments))
            drawings.append(desk.drawing())
        self.assertEqual(areas, [(16, 1), (2, 1), (9, 1), (16, 1)])
        for _ in range(2):
            for k in range(3, -1, -1):
                self.assertEqual(desk.undo(), areas[k])
                self.assertEqual(desk.drawing(), drawings[k])
                self.assertEqual(len(desk), k)
            with self.assertRaises(NothingToUndo):
                desk.undo()
            for k in range(4):
                self.assertEqual(desk.redo(), areas[k])
                self.assertEqual(desk.drawing(), drawings[k + 1])
                self.assertEqual(len(desk), k + 1)
            with self.assertRaises(NothingToUndo):
                desk.redo()
        for _ in range(3):
            self.assertEqual([desk.undo(), desk.redo(), desk.undo(), desk.undo(), desk.redo(), desk.redo()],
                             [areas[k] for k in (3, 3, 3, 2, 2, 3)])
            self.assertEqual(desk.drawing(), drawings[4])

    def test_redo_after_a_new_change(self):
        for change, arguments in (("put", (0, LOW)), ("take", (0,)), ("exchange", (0,))):
            desk = Desk((COVER, HIGH))
            desk.put(2, RUB)
            desk.take(2)
            desk.undo()
            desk.undo()
            getattr(desk, change)(*arguments)
            with self.assertRaises(NothingToUndo):
                desk.redo()
            self.assertEqual(len(desk), 1)
            desk.undo()
            self.assertEqual(desk.drawing(), (COVER, HIGH))
            desk.redo()
            with self.assertRaises(NothingToUndo):
                desk.redo()

    def test_redo_after_a_refused_change(self):
        desk = Desk((COVER, HIGH, LOW, RUB))
        desk.take(3)
        desk.exchange(0)
        desk.undo()
        desk.undo()
        for change in (
            lambda: desk.put(0, LOW), lambda: desk.put(0, None), lambda: desk.put(7, LOW), lambda: desk.take(4),
            lambda: desk.exchange(3), lambda: desk.take(None), desk.undo,
        ):
            with self.assertRaises(PictureError):
                change()
        self.assertEqual(desk.redo(), changed_area((COVER, HIGH, LOW, RUB), (COVER, HIGH, LOW)))
        self.assertEqual(desk.redo(), NOTHING_CHANGED)
        self.assertEqual(desk.drawing(), (HIGH, COVER, LOW))
        self.assertEqual(len(desk), 2)

    def test_long_runs(self):
        chance = random.Random(71)
        refused = 0
        for _ in range(6):
            drawing = make_drawing(chance, 3)[:2]
            desk, model = Desk(drawing), Model(drawing)
            for _ in range(60):
                refused += self.step(chance, desk, model)
                self.assertEqual(desk.drawing(), model.drawings[model.at])
                self.assertEqual(len(desk), model.at)
        self.assertGreater(refused, 60)

    def step(self, chance, desk, model):
        """Make one change to the desk and to the model; return whether it is refused."""
        kind = chance.choice(("put", "put", "take", "exchange", "undo", "undo", "redo"))
        index, layers = chance.randint(-1, 5), model.layers()
        if kind in ("undo", "redo"):
            step = 1 if kind == "redo" else -1
            if not 0 <= model.at + step < len(model.drawings):
                with self.assertRaises(NothingToUndo):
                    getattr(desk, kind)()
                return True
            self.assertEqual(getattr(desk, kind)(), model.go(step))
            return False
        arguments = [index]
        if kind == "put":
            layer = make_layer(chance, 3, 2)
            arguments.append(layer)
            new, most = [*layers[:index], layer, *layers[index:]], len(layers)
        elif kind == "take":
            new, most = layers[:index] + layers[index + 1:], len(layers) - 1
        else:
            new, most = layers[:index] + layers[index:index + 2][::-1] + layers[index + 2:], len(layers) - 2
        error = None
        if not 0 <= index <= most:
            error = InvalidIndex
        elif not is_drawing((arguments[-1],)) and kind == "put":
            error = InvalidLayer
        elif not is_drawing(tuple(new)):
            error = TooMany
        if error:
            with self.assertRaises(error):
                getattr(desk, kind)(*arguments)
            return True
        self.assertEqual(getattr(desk, kind)(*arguments), model.change(new))
        return False


class RefusedTest(unittest.TestCase):
    def refuse(self, desk, error, change, *arguments):
        """Check that the change is refused with this error alone, and changes nothing."""
        drawing, many = desk.drawing(), len(desk)
        with self.assertRaises(error, msg=arguments) as caught:
            getattr(desk, change)(*arguments)
        self.assertIs(type(caught.exception), error)
        self.assertEqual((desk.drawing(), len(desk)), (drawing, many))

    def test_indices(self):
        desk = Desk((LOW, HIGH, RUB))
        for index in [*WRONG_INDICES, 4]:
            self.refuse(desk, InvalidIndex, "put", index, LOW)
        for index in [*WRONG_INDICES, 3, 4]:
            self.refuse(desk, InvalidIndex, "take", index)
        for index in [*WRONG_INDICES, 2, 3]:
            self.refuse(desk, InvalidIndex, "exchange", index)
        for drawing, index in (((), 0), ((), -1), (T, 0), (T, -1), (T, 1)):
            self.refuse(Desk(drawing), InvalidIndex, "exchange", index)
        self.refuse(Desk(()), InvalidIndex, "take", 0)
        self.refuse(Desk(()), InvalidIndex, "put", 1, LOW)

    def test_layers(self):
        desk = Desk((LOW, HIGH))
        for layer in [
            *WRONG, T, (LOW, HIGH), list(LOW), TRIANGLE, (*LOW, 1), LOW[:3], V, fill_of(8, 8, 8, 8), group((fill_of(8, 8, 8),) * 3),
        ]:
            for index in (0, 2):
                self.refuse(desk, InvalidLayer, "put", index, layer)
            self.refuse(desk, InvalidIndex, "put", 3, layer)
            self.refuse(desk, InvalidIndex, "put", True, layer)
        deep = group((group((group((LOW,)),)),))
        self.refuse(desk, InvalidLayer, "put", 0, deep)

    def test_too_many_layers(self):
        desk = Desk((LOW, HIGH, RUB))
        desk.put(3, FILL)
        for index in range(5):
            self.refuse(desk, TooMany, "put", index, FILL)
            self.refuse(desk, TooMany, "put", index, group(()))
            self.refuse(desk, InvalidLayer, "put", index, None)
            self.refuse(desk, InvalidLayer, "put", index, fill_of(9))
        self.refuse(desk, InvalidIndex, "put", 5, FILL)
        self.refuse(desk, InvalidIndex, "put", -1, None)
        desk.take(0)
        desk.put(0, FILL)
        self.assertEqual(desk.drawing(), (FILL, HIGH, RUB, FILL))

    def test_too_many_points(self):
        most = fill_of(8, 8, 4)
        desk = Desk((most, most))
        self.assertEqual(count_points(desk.drawing()), 40)
        for layer in (fill_of(8, 8, 5), ("rub", fill_of(7, 7, 7)[1], (1, 2)), group((most,), clip=SQUARE), group((most, FILL))):
            for index in (0, 1, 2):
                self.refuse(desk, TooMany, "put", index, layer)
        for layer in (most, ("rub", most[1], (1, 2)), group((fill_of(8, 8),), clip=SQUARE)):
            self.assertNotEqual(desk.put(1, layer), None)
            self.assertEqual(count_points(desk.drawing()), 60)
            self.refuse(desk, TooMany, "put", 0, fill_of(3))
            desk.undo()
        desk.put(2, most)
        desk.put(1, group(()))
        self.assertEqual(len(desk.drawing()), 4)

    def test_nothing_to_undo(self):
        desk = Desk(T)
        self.refuse(desk, NothingToUndo, "undo")
        self.refuse(desk, NothingToUndo, "redo")
        desk.put(0, RUB)
        self.refuse(desk, NothingToUndo, "redo")
        desk.undo()
        self.refuse(desk, NothingToUndo, "undo")
        desk.redo()
        self.refuse(desk, NothingToUndo, "redo")

    def test_wrong_drawings(self):
        for value in [*WRONG, (LOW,) * 5, (fill_of(8, 8, 8),) * 3, [FILL], list(Q), FILL]:
            with self.assertRaises(InvalidDrawing, msg=value):
                Desk(value)


class EqualityTest(unittest.TestCase):
    def check(self, one, other, expected):
        self.assertIs(one == other, expected)
        self.assertIs(other == one, expected)
        self.assertIs(one != other, not expected)

    def test_beginning(self):
        self.check(Desk(T), Desk(T), True)
        self.check(Desk(T), Desk(Q), False)
        self.check(Desk(()), Desk(()), True)
        # The same picture is not the same drawing.
        self.check(Desk(()), Desk((RUB,)), False)
        self.check(Desk(T), Desk((fill(*TRIANGLE[1], opacity=(2, 4)),)), False)
        self.check(Desk((LOW, HIGH)), Desk((HIGH, LOW)), False)

    def test_different_ways(self):
        one, other = Desk((LOW, LOW)), Desk((LOW, LOW))
        one.put(0, LOW)
        self.check(one, other, False)
        other.put(2, LOW)
        self.check(one, other, True)
        one.take(0)
        other.take(2)
        self.check(one, other, True)
        one.exchange(0)
        self.check(one, other, False)
        other.exchange(0)
        self.check(one, other, True)
        # Taken away at once, or by two changes.
        one.take(0)
        other.take(0)
        other.put(1, LOW)
        self.check(one, other, False)

    def test_same_drawing_by_another_sequence(self):
        one, other = Desk(()), Desk(())
        for desk, layers in ((one, (LOW, HIGH)), (other, (HIGH, LOW))):
            for index, layer in enumerate(layers):
                desk.put(0 if desk is other and index else index, layer)
        self.assertEqual(one.drawing(), other.drawing())
        self.check(one, other, False)
        self.check(one, Desk((LOW, HIGH)), False)
        begun = Desk((LOW,))
        begun.put(1, HIGH)
        self.check(one, begun, False)
        one.undo()
        other.undo()
        self.check(one, other, False)
        one.undo()
        other.undo()
        self.check(one, other, True)

    def test_undone_changes(self):
        one, other = Desk(T), Desk(T)
        one.put(0, RUB)
        one.put(1, LOW)
        one.undo()
        one.undo()
        self.check(one, other, True)
        other.take(0)
        other.undo()
        self.check(one, other, True)
        one.redo()
        self.check(one, other, False)
        other.put(0, RUB)
        self.check(one, other, True)
        other.exchange(0)
        other.undo()
        self.check(one, other, True)
        one.redo()
        other.put(1, LOW)
        self.check(one, other, True)
        self.assertEqual(len(one), len(other))

    def test_other_values(self):
        desk = Desk(T)
        for value in (T, (), None, 0, 1, True, "desk", [T], {0: T}, object(), FILL, 1.5, Desk, b""):
            self.check(desk, value, False)
        self.assertFalse(desk in [T, None])
        self.assertTrue(Desk(T) in [Desk(Q), Desk(T)])
        self.check(desk, desk, True)


class ArgumentsTest(unittest.TestCase):
    def test_two_desks(self):
        one, other = Desk(T), Desk(T)
        one.put(1, LOW)
        self.assertEqual(other.drawing(), T)
        self.assertEqual(len(other), 0)
        other.take(0)
        one.undo()
        self.assertEqual((one.drawing(), other.drawing()), (T, ()))
        with self.assertRaises(NothingToUndo):
            one.undo()
        self.assertEqual(other.undo(), (2, 1))
        self.assertEqual(one.redo(), (9, 1))
        with self.assertRaises(NothingToUndo):
            one.redo()
        self.assertEqual(other.redo(), (2, 1))

    def test_arguments_stay(self):
        drawing = (LOW, group((HIGH, RUB), (1, 2), SQUARE, (1, 1, 0, 1, 0, 0)), COVER)
        kept, layer = copy.deepcopy(drawing), copy.deepcopy(RUB)
        desk = Desk(drawing)
        desk.put(1, layer)
        desk.exchange(0)
        desk.take(2)
        desk.undo()
        self.assertEqual((drawing, layer), (kept, RUB))
        seen = desk.drawing()
        desk.undo()
        self.assertEqual(seen, (layer, LOW, *drawing[1:]))


if __name__ == "__main__":
    unittest.main()
