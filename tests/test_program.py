"""The program as a whole: sections 1 and 3, and the guarantees of all modules together."""

import copy
import random
import unittest
from fractions import Fraction

from samepictures import changes, drawings, errors, forms, layers, measures, moves, plans, regions, seeing, texts
from samepictures.desks import Desk
from tests.making import make_drawing
from tests.model_edges import plain
from tests.model_plans import read_plan
from tests.samples import FILL, NOTHING, RUB, SQUARE, T, V, WRONG, at, fill, group, square

BOX = ((0, 1), (0, 1), (2, 1), (2, 1))
POINT = ((1, 2), (1, 3))
MIXED = (
    fill(square(0, 4)), group((FILL, RUB), (1, 2), SQUARE, (2, 1, -1, 1, 1, 0)),
    fill(square(2, 6), colour=(0, 0, 1), opacity=(1, 2)),
)


def used_up():
    desk = Desk(T)
    desk.put(0, RUB)
    desk.undo()
    desk.undo()


# For each exception a call that raises it.
FAILING = [
    (errors.InvalidNumber, lambda: measures.along(T, (2, 2))), (errors.InvalidNumber, lambda: changes.where(T, NOTHING)),
    (errors.InvalidPoint, lambda: seeing.painted(T, (0, 0))), (errors.InvalidPoint, lambda: forms.seen(T, None)),
    (errors.InvalidShape, lambda: regions.region(T)), (errors.InvalidLayer, lambda: Desk(T).put(0, T)),
    (errors.InvalidDrawing, lambda: Desk(FILL)), (errors.InvalidDrawing, lambda: plans.plan(None)),
    (errors.InvalidRegion, lambda: regions.area(T)), (errors.InvalidPlan, lambda: plans.plan_form(T)),
    (errors.InvalidPlan, lambda: plans.count_corners(None)), (errors.InvalidIndex, lambda: Desk(T).take(1)),
    (errors.InvalidIndex, lambda: layers.can_dissolve(T, 0)), (errors.InvalidBox, lambda: measures.mean(T, (0, 0, 2, 2))),
    (errors.InvalidMove, lambda: moves.turned_form(T, 8)), (errors.InvalidText, lambda: texts.parse_drawing(" ")),
    (errors.OnEdge, lambda: measures.along(T, (0, 1))), (errors.OnEdge, lambda: seeing.painted(T, at(1, 1))),
    (errors.OnEdge, lambda: forms.seen(T, at(1, 1))), (errors.Blank, lambda: moves.moves(T, ())),
    (errors.Blank, lambda: moves.enlargement((), T)), (errors.Blank, lambda: changes.changed_box(T, T)),
    (errors.Blank, lambda: regions.box(())), (errors.TooMany, lambda: Desk((FILL,) * 4).put(0, FILL)),
    (errors.NothingToUndo, lambda: Desk(T).redo()), (errors.NothingToUndo, used_up),
]

# Functions of one drawing, with further arguments that are right, and with some that are wrong.
ONE = [
    (drawings.count_points, (), ()), (texts.format_drawing, (), ()), (seeing.painted, (POINT,), (None,)),
    (forms.seen, (POINT,), ((0, 0),)), (forms.form, (), ()), (forms.is_blank, (), ()), (changes.values, (), ()),
    (changes.where, (V,), (NOTHING,)), (changes.covered, (), ()), (changes.areas, (), ()), (layers.needless, (), ()),
    (layers.thinned, (), ()), (layers.exchangeable, (), ()), (layers.sequences, (), ()), (layers.can_dissolve, (1,), (-1,)),
    (layers.is_clip_needless, (1,), (True,)), (plans.plan, (), ()), (moves.turned_form, (5,), (8,)),
    (measures.mean, (BOX,), (BOX[::-1],)), (measures.along, ((1, 7),), ((7, 7),)), (Desk, (), ()),
]
TWO = [
    forms.same, forms.parting, changes.changed, changes.changed_area, changes.changed_box, moves.moves, moves.enlargement,
]


def seen_in(edges, x, y):
    """Return the value that a form shows at a point on none of its edges."""
    found = []
    for start, end, left, _ in edges:
        (start_x, start_y), (end_x, end_y) = [[Fraction(*part) for part in point] for point in (start, end)]
        if start_x <= x < end_x:
            height = start_y + (x - start_x) * (end_y - start_y) / (end_x - start_x)
            if height < y:
                found.append((height, left))
    return max(found)[1] if found else NOTHING


class ErrorsTest(unittest.TestCase):
    def test_each_exception(self):
        for error, call in FAILING:
            with self.assertRaises(ValueError) as caught:
                call()
            self.assertIs(type(caught.exception), error)
            self.assertIsInstance(caught.exception, errors.PictureError)
        raised = {error.__name__ for error, _ in FAILING}
        self.assertEqual(raised, {name for name in vars(errors) if not name.startswith("_")} - {"PictureError"})

    def test_drawings_come_first(self):
        for value in WRONG:
            for function, right, wrong in ONE:
                for further in (right, wrong):
                    with self.assertRaises(errors.InvalidDrawing, msg=(function, value)):
                        function(value, *further)
            for function in TWO:
                for arguments in ((value, MIXED), (MIXED, value), (value, value), (value, ()), ((), value)):
                    with self.assertRaises(errors.InvalidDrawing, msg=(function, value)):
                        function(*arguments)

    def test_the_first_wrong_argument_counts(self):
        # The other conditions are looked at only when all arguments are right.
        with self.assertRaises(errors.InvalidDrawing):
            moves.moves((), None)
        with self.assertRaises(errors.InvalidIndex):
            Desk((FILL,) * 4).put(5, FILL)
        with self.assertRaises(errors.InvalidLayer):
            Desk((FILL,) * 4).put(0, None)
        with self.assertRaises(errors.InvalidIndex):
            Desk((FILL,) * 4).put(None, None)
        with self.assertRaises(errors.InvalidNumber):
            measures.along((), (0, 2))
        with self.assertRaises(errors.InvalidBox):
            measures.mean((), None)


class ArgumentsTest(unittest.TestCase):
    def test_arguments_stay_and_results_are_equal(self):
        calls = [(function, (MIXED, *right)) for function, right, _ in ONE] + [(function, (MIXED, T)) for function in TWO]
        plan = plans.plan(MIXED)
        calls += [(function, (plan,)) for function in (plans.is_plan, plans.plan_form, plans.count_corners)]
        for function, arguments in calls:
            kept, others = copy.deepcopy(arguments), copy.deepcopy(arguments)
            found = function(*arguments)
            self.assertEqual(arguments, kept, function)
            self.assertEqual(function(*others), found, function)
            self.assertEqual(function(*arguments), found, function)

    def test_functions_that_take_any_value(self):
        takers = (drawings.is_shape, drawings.is_layer, drawings.is_drawing, regions.is_region, plans.is_plan)
        others = [T, FILL, SQUARE, V, BOX, regions.region(SQUARE), plans.plan(T), object(), Desk(T), Desk, 10 ** 5000]
        for value in [*WRONG, *others]:
            for function in takers:
                self.assertIsInstance(function(value), bool)


class GuaranteesTest(unittest.TestCase):
    def test_one_picture_in_all_modules(self):
        chance = random.Random(81)
        for k in range(25):
            drawing = make_drawing(chance, (1, 2, 3, 9)[k % 4])
            other = layers.thinned(texts.parse_drawing(texts.format_drawing(drawing)))
            self.assertTrue(forms.same(drawing, other))
            self.assertIsNone(forms.parting(drawing, other))
            for function in (forms.form, plans.plan, changes.values, changes.areas, changes.covered):
                self.assertEqual(function(drawing), function(other))
            self.assertEqual(measures.mean(drawing, BOX), measures.mean(other, BOX))
            self.assertEqual(moves.turned_form(drawing, k % 8), moves.turned_form(other, k % 8))
            if not forms.is_blank(drawing):
                self.assertIn((0, at(0, 0)), moves.moves(drawing, other))
                self.assertEqual(moves.enlargement(drawing, other), ((1, 1), at(0, 0)))
            desk = Desk(drawing)
            for number in range(len(drawing) - 1, -1, -1):
                expected = changes.changed_area(desk.drawing(), drawing[:number])
                self.assertEqual(desk.take(number), expected)
            shares = sum(Fraction(*share) for _, share in changes.areas(drawing))
            self.assertEqual(shares, Fraction(*regions.area(changes.covered(drawing))))

    def test_points_in_all_modules(self):
        chance = random.Random(82)
        told = 0
        for k in range(12):
            drawing = make_drawing(chance, (2, 3, 9)[k % 3])
            edges, plan = forms.form(drawing), plans.plan(drawing)
            for _ in range(8):
                x, y = Fraction(chance.randint(-900, 900), 331), Fraction(chance.randint(-900, 900), 337)
                point = (plain(x), plain(y))
                try:
                    value = seeing.painted(drawing, point)
                except errors.OnEdge:
                    continue
                self.assertEqual(forms.seen(drawing, point), value)
                self.assertEqual(seen_in(edges, x, y), value)
                self.assertEqual(read_plan(plan, x, y), value)
                stretches = measures.along(drawing, point[1])
                there = [shown for low, high, shown in stretches if Fraction(*low) < x < Fraction(*high)]
                self.assertEqual(there, [] if value == NOTHING else [value])
                tiny = Fraction(1, 10 ** 12)
                box = tuple([plain(bound) for bound in (x - tiny, y - tiny, x + tiny, y + tiny)])
                self.assertEqual(measures.mean(drawing, box), value)
                told += value != NOTHING
        self.assertGreater(told, 15)

    def test_results_are_fractions(self):
        def check(value):
            if isinstance(value, tuple) and len(value) == 2 and all(type(number) is int for number in value):
                self.assertEqual(value, plain(Fraction(*value)))
                self.assertGreater(value[1], 0)
            elif isinstance(value, tuple):
                for part in value:
                    check(part)
            else:
                self.assertIsInstance(value, (bool, int))

        chance = random.Random(83)
        for _ in range(10):
            drawing, other = make_drawing(chance, 3), make_drawing(chance, 3)
            check((plans.plan(drawing), plans.plan_form(plans.plan(drawing)), moves.turned_form(drawing, 5)))
            check((measures.mean(drawing, BOX), measures.along(drawing, (1, 331)), changes.changed(drawing, other)))
            if not forms.is_blank(drawing) and not forms.is_blank(other):
                check(tuple([shift for _, shift in moves.moves(drawing, other)]))


if __name__ == "__main__":
    unittest.main()
