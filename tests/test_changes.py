"""Where something is seen, and where pictures are unlike: sections 2.3 and 8, guarantee (d)."""

import random
import unittest
from fractions import Fraction

from samepictures.changes import areas, changed, changed_area, changed_box, covered, values, where
from samepictures.errors import Blank, InvalidDrawing, InvalidNumber
from samepictures.forms import form, same
from samepictures.regions import area, box, common, is_region, region, united, without
from tests.making import make_drawing
from tests.model import show
from tests.model_edges import all_edges, trace
from tests.samples import (
    FILL, NOTHING, Q, RUB, SQUARE, T, TRIANGLE, V, WRONG, WRONG_FRACTIONS, WRONG_POINTS, at, fill, group, solid, square,
)

RED, GREEN, BLUE = solid(1, 0, 0), solid(0, 1, 0), solid(0, 0, 1)
HALF = ((1, 2), (1, 2), (0, 1), (0, 1))
MIXED = (
    fill(square(0, 4), colour=(0, 0, 1)), fill(square(2, 6), opacity=(1, 2)), ("rub", ("odd", (square(5, 9),)), (1, 1)),
)


def plain(number):
    return (number.numerator, number.denominator)


def model_region(edges, look):
    """Return the region in which the look is True."""
    return tuple([(start, end, left) for start, end, left, _ in trace(edges, look)])


def model_value(drawing, x, y):
    return tuple(map(plain, show(drawing, x, y)))


def numbers(value):
    return tuple(Fraction(*part) for part in value)


class ValuesTest(unittest.TestCase):
    def test_examples(self):
        self.assertEqual(values(T), (V,))
        self.assertEqual(areas(T), ((V, (2, 1)),))

    def test_nothing(self):
        for drawing in ((), (RUB,), (group(()),), (FILL, ("rub", SQUARE, (1, 1)))):
            self.assertEqual(values(drawing), ())
            self.assertEqual(areas(drawing), ())
            self.assertEqual(covered(drawing), ())
            self.assertEqual(where(drawing, V), ())

    def test_sequence(self):
        # As numbers 1/2 comes ahead of 1, and 9/10 of it; as tuples (1, 1) would come first.
        self.assertEqual(values(MIXED), (HALF, ((1, 1), (0, 1), (0, 1), (1, 1)), ((1, 1), (1, 2), (0, 1), (1, 2))))
        steps = tuple(
            fill(((k, 0), (k + 1, 0), (k, 1)), colour=(9 - k, k, 0), opacity=opacity)
            for k, opacity in enumerate(((5, 6), (1, 3), (3, 4), (2, 5)))
        )
        self.assertEqual([value[0] for value in values(steps)], [(1, 3), (2, 5), (3, 4), (5, 6)])
        shades = tuple(fill(((k, 0), (k + 1, 0), (k, 1)), colour=(1, 9 - k, k)) for k in (2, 0, 3, 1))
        self.assertEqual([value[2] for value in values(shades)], [(6, 1), (7, 1), (8, 1), (9, 1)])

    def test_hidden_values_are_not_told(self):
        self.assertEqual(values((fill(square(1, 2)), fill(square(0, 4), colour=(0, 0, 1)))), (BLUE,))
        self.assertEqual(values((FILL, FILL)), (((3, 4), (3, 4), (0, 1), (0, 1)),))
        self.assertEqual(values((fill(square(0, 1), colour=(0, 0, 0)),)), (((1, 1), (0, 1), (0, 1), (0, 1)),))

    def test_areas(self):
        self.assertEqual(
            areas(MIXED),
            ((HALF, (11, 1)), (((1, 1), (0, 1), (0, 1), (1, 1)), (12, 1)), (((1, 1), (1, 2), (0, 1), (1, 2)), (4, 1))),
        )
        apart = (fill(square(0, 1)), fill(square(2, 4)), fill(((5, 5), (6, 5), (5, 6))))
        self.assertEqual(areas(apart), ((RED, (11, 2)),))

    def test_model(self):
        chance = random.Random(21)
        for k in range(120):
            drawing = make_drawing(chance, (1, 2, 4, 9)[k % 4])
            found = values(drawing)
            seen = {value for edge in form(drawing) for value in edge[2:]} - {NOTHING}
            self.assertEqual(list(found), sorted(seen, key=numbers))
            regions = [where(drawing, value) for value in found]
            self.assertTrue(all(is_region(some) and some for some in regions))
            self.assertEqual(areas(drawing), tuple([(value, area(some)) for value, some in zip(found, regions)]))
            whole = ()
            for some in regions:
                self.assertEqual(common(whole, some), ())
                whole = united(whole, some)
            self.assertEqual(covered(drawing), whole)

    def test_wrong_drawings(self):
        for value in WRONG:
            for function in (values, covered, areas):
                with self.assertRaises(InvalidDrawing, msg=value):
                    function(value)


class WhereTest(unittest.TestCase):
    def test_regions(self):
        self.assertEqual(where(T, V), region(TRIANGLE))
        self.assertEqual(where(MIXED, ((1, 1), (0, 1), (0, 1), (1, 1))), without(region(("odd", (square(0, 4),))),
                                                                              region(("odd", (square(2, 6),)))))
        apart = (fill(square(0, 1)), fill(square(3, 4)), fill(square(1, 3), colour=(0, 0, 1)))
        self.assertEqual(where(apart, RED), region(("odd", (square(0, 1), square(3, 4)))))
        joined = (fill(square(0, 2)), fill(((2, 0), (4, 0), (4, 2), (2, 2))))
        self.assertEqual(where(joined, RED), region(("odd", (((0, 0), (4, 0), (4, 2), (0, 2)),))))

    def test_values_that_are_not_seen(self):
        hidden = (fill(square(1, 2)), fill(square(0, 4), colour=(0, 0, 1)))
        for value in (RED, GREEN, V, ((2, 1), (0, 1), (0, 1), (0, 1)), ((-1, 2),) * 4, ((10 ** 30, 1),) * 4):
            self.assertEqual(where(hidden, value), ())
        self.assertEqual(where((), V), ())

    def test_model(self):
        chance = random.Random(22)
        for k in range(25):
            drawing = make_drawing(chance, (1, 2, 3)[k % 3])
            edges = all_edges(drawing)
            for value in values(drawing)[:2]:
                expected = model_region(edges, lambda x, y: model_value(drawing, x, y) == value)
                self.assertEqual(where(drawing, value), expected)
            expected = model_region(edges, lambda x, y: model_value(drawing, x, y) != NOTHING)
            self.assertEqual(covered(drawing), expected)

    def test_wrong_values(self):
        wrong = [
            *WRONG_POINTS, NOTHING, list(V), V[:3], (*V, (0, 1)), (V,), 0, 1, (1, 2), at(0, 0), (0, 0, 0, 0), (1, 1, 0, 0),
            *[(V[0], number, *V[2:]) for number in WRONG_FRACTIONS], *[(*V[:3], number) for number in WRONG_FRACTIONS],
            *[(number,) * 4 for number in WRONG_FRACTIONS], ((0, 2), (0, 1), (0, 1), (0, 1)), ([1, 2], *V[1:]),
        ]
        for value in wrong:
            with self.assertRaises(InvalidNumber, msg=value):
                where(T, value)
        with self.assertRaises(InvalidNumber):
            where((), NOTHING)

    def test_wrong_drawings(self):
        for value in WRONG:
            for number in (V, NOTHING, None):
                with self.assertRaises(InvalidDrawing, msg=value):
                    where(value, number)


class ChangedTest(unittest.TestCase):
    def test_examples(self):
        self.assertEqual(changed_area(T, Q), (2, 1))
        self.assertEqual(changed(T, Q), region(("odd", (((2, 0), (2, 2), (0, 2)),))))
        self.assertEqual(changed_box(T, Q), (*at(0, 0), *at(2, 2)))

    def test_alike(self):
        other = (fill(((0, 2), (0, 0), (2, 0)), opacity=(1, 2)), RUB[:2] + ((1, 6),))[:1]
        for drawing, alike in ((T, other), ((), (RUB,)), (T, T), ((), ())):
            self.assertEqual(changed(drawing, alike), ())
            self.assertEqual(changed_area(drawing, alike), (0, 1))
            with self.assertRaises(Blank):
                changed_box(drawing, alike)

    def test_small_places(self):
        small = fill(((7, 8), (8, 8), (8, 9)), opacity=(1, 6))
        self.assertEqual(changed((FILL, small), (FILL,)), region(small[1]))
        self.assertEqual(changed_area((FILL, small), (FILL,)), (1, 2))
        self.assertEqual(changed_box((FILL, small), (FILL,)), (*at(7, 8), *at(8, 9)))
        darker = (fill(square(0, 4), colour=(1, 2, 3)), fill(square(0, 4), colour=(1, 2, 4)))
        self.assertEqual(changed(darker[:1], darker[1:]), region(darker[0][1]))
        recoloured = (MIXED, (fill(square(0, 4), colour=(0, 0, 2)), *MIXED[1:]))
        self.assertEqual(changed_area(*recoloured), (16, 1))

    def test_model(self):
        chance = random.Random(23)
        unlike = 0
        for k in range(50):
            reach = (1, 2, 3)[k % 3]
            drawing = make_drawing(chance, reach)
            other = make_drawing(chance, reach) if k % 2 else drawing[:-1]
            expected = model_region(
                all_edges(drawing) + all_edges(other), lambda x, y: show(drawing, x, y) != show(other, x, y),
            )
            found = changed(drawing, other)
            self.assertEqual(found, expected, (drawing, other))
            self.assertEqual(changed(other, drawing), found)
            self.assertTrue(is_region(found))
            self.assertEqual(changed_area(drawing, other), area(found))
            self.assertEqual(same(drawing, other), not found)
            if found:
                unlike += 1
                self.assertEqual(changed_box(drawing, other), box(found))
        self.assertGreater(unlike, 20)

    def test_many_edges(self):
        loops = [tuple((9 if n % 2 else -9, (n * 5 + k) % 17 - 8) for n in range(8)) for k in range(3)]
        others = [tuple(((n * 5 + k) % 17 - 8, 9 if n % 2 else -9) for n in range(8)) for k in range(3)]
        drawing, other = (fill(*loops), fill(*loops, rule="turns", opacity=(1, 2))), (fill(*others), fill(*others, rule="turns"))
        found = changed(drawing, other)
        self.assertEqual(changed_area(drawing, other), area(found))
        sums = [sum(Fraction(*part) for _, part in areas(each)) for each in (drawing, other)]
        self.assertEqual(sums, [Fraction(*area(covered(each))) for each in (drawing, other)])

    def test_wrong_drawings(self):
        for value in WRONG:
            for function in (changed, changed_area, changed_box):
                for arguments in ((value, T), (T, value), (value, None)):
                    with self.assertRaises(InvalidDrawing, msg=value):
                        function(*arguments)


if __name__ == "__main__":
    unittest.main()
