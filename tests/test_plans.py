"""Plans: sections 2.3, 2.7 and 10, guarantee (f)."""

import random
import unittest
from fractions import Fraction

from samepictures.changes import areas, values, where
from samepictures.errors import InvalidDrawing, InvalidPlan
from samepictures.forms import form
from samepictures.plans import count_corners, is_plan, plan, plan_form
from samepictures.seeing import painted
from tests.making import make_drawing, make_shape
from tests.model import model
from tests.model_edges import plain
from tests.model_plans import check_loops, goes_round, loops_of, model_plan_form, read_plan
from tests.samples import (
    FAR, FILL, NOTHING, Q, RUB, SAME, SQUARE, T, TRIANGLE, V, WRONG, WRONG_FRACTIONS, WRONG_POINTS, at, fill, group,
    number, solid, square,
)

RED, GREEN, BLUE = solid(1, 0, 0), solid(0, 1, 0), solid(0, 0, 1)
TRIANGLE_LOOP = (at(0, 0), at(2, 0), at(0, 2))


def loop(*pairs):
    """Return a loop of a plan."""
    return tuple([at(*pair) for pair in pairs])


def drawn(*loops):
    """Return the loops of the plan of a drawing with one fill."""
    (_, found), = plan((fill(*loops),))
    return found


def told(*loops, value=V):
    """Return a plan of one pair, with loops told by pairs of integers."""
    return ((value, tuple([loop(*each) for each in loops])),)


class PlanTest(unittest.TestCase):
    def test_example(self):
        self.assertEqual(plan(T), ((V, (TRIANGLE_LOOP,)),))

    def test_nothing(self):
        for drawing in ((), (RUB,), (group(()),), (fill(*TRIANGLE[1] * 2),), (FILL, ("rub", SQUARE, (1, 1)))):
            self.assertEqual(plan(drawing), (), drawing)

    def test_direction_and_beginning(self):
        corners = ((0, 0), (4, 0), (4, 4), (1, 3))
        expected = (loop(*corners),)
        for k in range(4):
            other = corners[k:] + corners[:k]
            self.assertEqual(drawn(other), expected)
            self.assertEqual(drawn(other[::-1]), expected)
        # Points within edges, and those of spurs, are no ends of edges.
        self.assertEqual(drawn(((0, 0), (2, 0), (4, 0), (4, 4), (7, 4), (4, 4), (1, 3))), expected)
        # Of two points with the least x, the lower one is the least.
        self.assertEqual(drawn(((3, 3), (0, 2), (0, 1))), (loop((0, 1), (3, 3), (0, 2)),))
        self.assertEqual(drawn(((5, -1), (-2, 3), (1, -4))), (loop((-2, 3), (1, -4), (5, -1)),))

    def test_hole(self):
        self.assertEqual(drawn(square(0, 4), square(1, 3)), (
            loop((0, 0), (4, 0), (4, 4), (0, 4)), loop((1, 1), (1, 3), (3, 3), (3, 1)),
        ))

    def test_ends_in_the_midst_of_an_edge(self):
        whole = loop((0, 0), (4, 0), (4, 4), (0, 4))
        hole, below = ((2, 0), (3, 2), (1, 2)), ((2, 0), (1, -3), (3, -3))
        hole_loop, below_loop = loop((1, 2), (3, 2), (2, 0)), loop((1, -3), (3, -3), (2, 0))
        self.assertEqual(drawn(square(0, 4), hole), (whole, hole_loop))
        self.assertEqual(drawn(square(0, 4), below), (whole, below_loop))
        # The corner below is passed by itself, though edges go on further to the left from the hole's, too.
        self.assertEqual(drawn(square(0, 4), hole, below), (whole, below_loop, hole_loop))
        # Two holes there touch each other.
        other = ((2, 0), (4, 1), (3, 1))
        self.assertEqual(drawn(((0, 0), (9, 0), (9, 4), (0, 4)), hole, other), (
            loop((0, 0), (9, 0), (9, 4), (0, 4)), loop((1, 2), (3, 2), (2, 0), (3, 1), (4, 1), (2, 0)),
        ))
        # With slopes alike, the edges go straight on across the lower one.
        straight = ((2, 0), (1, -2), (3, -2))
        self.assertEqual(drawn(square(0, 4), hole, straight), (whole, loop((1, -2), (3, -2), (1, 2), (3, 2))))
        # Edges of other values end there, which are no ends of edges of this region's.
        split = (fill(square(0, 4)), fill(((2, 0), (2, -2), (0, -2), (0, 0)), colour=(0, 0, 1)))
        self.assertEqual(plan(split)[1], (RED, (whole,)))
        self.assertEqual(plan(split)[0], (BLUE, (loop((0, -2), (2, -2), (2, 0), (0, 0)),)))

    def test_touching_corners(self):
        self.assertEqual(drawn(square(0, 2), square(2, 4)), (
            loop((0, 0), (2, 0), (2, 2), (0, 2)), loop((2, 2), (4, 2), (4, 4), (2, 4)),
        ))
        self.assertEqual(drawn(((0, 0), (2, 2), (2, 0), (0, 2))), (
            loop((0, 0), (1, 1), (0, 2)), loop((1, 1), (2, 0), (2, 2)),
        ))
        # Three corners that touch at the least point of all of them.
        fan = drawn(((0, 0), (9, 5), (9, 7)), ((0, 0), (3, -1), (3, 0)), ((0, 0), (9, 1), (5, 2)))
        self.assertEqual(fan, (
            loop((0, 0), (3, -1), (3, 0)), loop((0, 0), (9, 1), (5, 2)), loop((0, 0), (9, 5), (9, 7)),
        ))
        # Two squares of a value, and two of another one, in turn around a point.
        board = (fill(square(0, 2), square(-2, 0)), fill(((0, 0), (-2, 0), (-2, 2), (0, 2)), colour=(0, 1, 0)))
        self.assertEqual(plan(board), (
            (GREEN, (loop((-2, 0), (0, 0), (0, 2), (-2, 2)),)),
            (RED, (loop((-2, -2), (0, -2), (0, 0), (-2, 0)), loop((0, 0), (2, 0), (2, 2), (0, 2)))),
        ))

    def test_touching_holes(self):
        self.assertEqual(drawn(square(0, 8), square(1, 3), square(3, 5)), (
            loop((0, 0), (8, 0), (8, 8), (0, 8)),
            loop((1, 1), (1, 3), (3, 3), (3, 5), (5, 5), (5, 3), (3, 3), (3, 1)),
        ))
        # Holes that touch the outer edge at one of its corners, other than the least one.
        self.assertEqual(drawn(square(0, 6), ((6, 6), (4, 5), (5, 4))), (
            loop((0, 0), (6, 0), (6, 6), (5, 4), (4, 5), (6, 6), (0, 6)),
        ))
        # A hole that touches both sides parts the region.
        self.assertEqual(drawn(square(0, 4), ((0, 0), (3, 1), (4, 4), (1, 3))), (
            loop((0, 0), (1, 3), (4, 4), (0, 4)), loop((0, 0), (4, 0), (4, 4), (3, 1)),
        ))

    def test_several_passes_by_the_least_point(self):
        self.assertEqual(drawn(square(0, 6), ((0, 0), (2, 1), (1, 2))), (
            loop((0, 0), (1, 2), (2, 1), (0, 0), (6, 0), (6, 6), (0, 6)),
        ))
        self.assertEqual(drawn(square(0, 6), ((0, 0), (5, 1), (5, 2)), ((0, 0), (3, 4), (2, 4))), (
            loop((0, 0), (2, 4), (3, 4), (0, 0), (5, 2), (5, 1), (0, 0), (6, 0), (6, 6), (0, 6)),
        ))
        # The pass that makes the tuple least is not the first one along the outer side.
        self.assertEqual(drawn(((0, 0), (5, -5), (5, 5)), ((0, 0), (2, -1), (2, 1))), (
            loop((0, 0), (2, 1), (2, -1), (0, 0), (5, -5), (5, 5)),
        ))
        self.assertEqual(drawn(((0, 0), (2, -6), (8, 0), (2, 6)), ((0, 0), (7, 0), (6, 1))), (
            loop((0, 0), (2, -6), (8, 0), (2, 6), (0, 0), (6, 1), (7, 0)),
        ))

    def test_sequence(self):
        steps = (
            fill(square(5, 6), square(-3, -2), square(1, 2)), fill(square(7, 8), opacity=(1, 2)),
            fill(square(-8, -7), colour=(0, 9, 0), opacity=(1, 3)),
        )
        found = plan(steps)
        self.assertEqual([value for value, _ in found], list(values(steps)))
        self.assertEqual([value[0] for value, _ in found], [(1, 3), (1, 2), (1, 1)])
        self.assertEqual([each[0] for each in found[2][1]], [at(-3, -3), at(1, 1), at(5, 5)])
        # 1/2 is less than 1, though as a tuple it is greater: so loops are put by their numbers, too.
        thin = drawn(((0, 0), (1, 1), (1, 0), (0, 1)), ((-9, 0), (-9, 1), (-8, 0)))
        self.assertEqual([each[0] for each in thin], [at(-9, 0), at(0, 0), at(1, 1, 2)])

    def check(self, drawing):
        found = plan(drawing)
        self.assertEqual([value for value, _ in found], list(values(drawing)))
        for value, loops in found:
            check_loops(self, where(drawing, value), loops)
        self.assertEqual(plan_form(found), form(drawing), drawing)
        self.assertIs(is_plan(found), True)
        self.assertEqual(count_corners(found), sum(len(where(drawing, value)) for value, _ in found))
        return found

    def test_points(self):
        chance = random.Random(41)
        shown = 0
        for k in range(60):
            drawing = make_drawing(chance, (1, 2, 3, 9)[k % 4])
            found = self.check(drawing)
            corners = [end for edge in form(drawing) for end in edge[:2]] or [at(0, 0)]
            for _ in range(12):
                near = [Fraction(*part) for part in chance.choice(corners)]
                point = tuple(plain(part + Fraction(chance.randint(-900, 900), 499)) for part in near)
                value = model(drawing, point)
                if value is None:
                    continue
                x, y = Fraction(*point[0]), Fraction(*point[1])
                self.assertEqual(read_plan(found, x, y), value)
                self.assertEqual(painted(drawing, point), value)
                self.assertLessEqual(sum(goes_round(loops_of(pair), x, y) for pair in found), 1)
                shown += value != NOTHING
        self.assertGreater(shown, 100)

    def test_small_pictures(self):
        # In these, corners often touch at points in the midst of edges.
        chance = random.Random(42)
        for _ in range(400):
            self.check((("fill", make_shape(chance, 1), (1, 0, 0), (1, 1)), ("rub", make_shape(chance, 2), (1, 1))))

    def test_areas(self):
        chance = random.Random(43)
        for k in range(40):
            drawing = make_drawing(chance, (2, 3, 9)[k % 3])
            found = []
            for value, loops in plan(drawing):
                doubled = 0
                for each in loops:
                    points = [(Fraction(*x), Fraction(*y)) for x, y in each]
                    doubled += sum(a[0] * b[1] - a[1] * b[0] for a, b in zip(points, points[1:] + points[:1]))
                found.append((value, number((doubled / 2).numerator, (doubled / 2).denominator)))
            self.assertEqual(tuple(found), areas(drawing))

    def test_many_edges(self):
        chance = random.Random(44)
        for _ in range(3):
            loops = [tuple((chance.randint(-9, 9), chance.randint(-9, 9)) for _ in range(8)) for _ in range(7)]
            layers = tuple(fill(*loops[2 * k:2 * k + 2], opacity=(1, 2 + k), colour=(k, 1, 2)) for k in range(4))
            found = self.check((group(layers[:2], (4, 5), None, (2, 1, -1, 2, 3, -1)), *layers[2:]))
            self.assertGreater(len(found), 10)

    def test_does_not_depend_on_the_drawing(self):
        whole = plan((fill(square(0, 4)),))
        halves = (fill(((0, 0), (1, 0), (3, 4), (0, 4))), fill(((1, 0), (4, 0), (4, 4), (3, 4))))
        self.assertEqual(plan(halves), whole)
        self.assertEqual(plan((fill(square(1, 3)), group((fill(square(0, 2)),), matrix=(-2, 0, 0, 2, 4, 0)))), whole)

    def test_wrong_drawings(self):
        for value in WRONG:
            with self.assertRaises(InvalidDrawing, msg=value):
                plan(value)


class IsPlanTest(unittest.TestCase):
    def wrong(self, value):
        self.assertIs(is_plan(value), False, value)
        for function in (plan_form, count_corners):
            with self.assertRaises(InvalidPlan, msg=value):
                function(value)

    def right(self, value):
        self.assertIs(is_plan(value), True, value)
        self.assertEqual(plan_form(value), model_plan_form(value))

    def test_plans(self):
        self.right(())
        self.right(((V, ()),))
        self.right(((V, ()), (V, ())))
        self.right(((V, (TRIANGLE_LOOP,)), (RED, ()), (V, (TRIANGLE_LOOP, TRIANGLE_LOOP))))
        self.right(((RED, (TRIANGLE_LOOP,)), (V, (TRIANGLE_LOOP,))))
        self.right(told(((0, 0), (0, 0), (0, 0))))
        self.right(told(((0, 0), (2, 0), (0, 0), (0, 0))))
        self.right(told([(k, k * k % 7) for k in range(40)]))
        self.right(((((0, 1), (5, 1), (0, 1), (0, 1)), (TRIANGLE_LOOP,)),))

    def test_other_kinds(self):
        # The empty tuple is a plan, so that among the wrong values it is left out.
        others = [*WRONG, *WRONG_POINTS, T, Q, FILL, SQUARE, SAME, V, TRIANGLE_LOOP, (TRIANGLE_LOOP,), (V,), (V, ()), True]
        for value in others:
            if value != ():
                self.wrong(value)
        self.wrong([])
        self.wrong([(V, (TRIANGLE_LOOP,))])
        self.wrong({V: (TRIANGLE_LOOP,)})
        self.wrong({})

    def test_wrong_values(self):
        for value in [
            NOTHING, V[:3], (*V, (0, 1)), (), list(V), None, 0, True, "red", (1, 1, 0, 0), at(0, 0), V + V, (V, V, V, V),
            {number: 1 for number in V}, 1.5, *[(part, *V[1:]) for part in WRONG_FRACTIONS],
            *[(*V[:3], part) for part in WRONG_FRACTIONS], *[(part,) * 4 for part in WRONG_FRACTIONS],
        ]:
            self.wrong(((value, (TRIANGLE_LOOP,)),))
            self.wrong(((V, (TRIANGLE_LOOP,)), (value, ())))

    def test_wrong_pairs(self):
        for pair in [
            (), (V,), (V, (TRIANGLE_LOOP,), ()), (V, (TRIANGLE_LOOP,), None), [V, (TRIANGLE_LOOP,)], ((TRIANGLE_LOOP,), V),
            (V, TRIANGLE_LOOP), (V, None), (V, [TRIANGLE_LOOP]), (V, {TRIANGLE_LOOP: 1}), (V, 3), (V, "loop"), None, 5, V,
            {V: 1, (TRIANGLE_LOOP,): 2}, (V, True),
        ]:
            self.wrong((pair,))
            self.wrong(((V, (TRIANGLE_LOOP,)), pair))
            self.wrong((pair, (V, ())))

    def test_wrong_loops(self):
        for each in [
            (), TRIANGLE_LOOP[:1], TRIANGLE_LOOP[:2], list(TRIANGLE_LOOP), None, 0, "loop", {at(0, 0): 1, at(2, 0): 1, at(0, 2): 1},
            ((0, 0), (2, 0), (0, 2)), (*TRIANGLE_LOOP, ()), (*TRIANGLE_LOOP, None), (TRIANGLE_LOOP,) * 3, True, 1.0,
        ]:
            self.wrong(((V, (each,)),))
            self.wrong(((V, (TRIANGLE_LOOP, each)),))
        for point in WRONG_POINTS:
            self.wrong(((V, ((*TRIANGLE_LOOP[:2], point),)),))
            self.wrong(((V, ((point, *TRIANGLE_LOOP),)),))

    def test_bounds(self):
        far = lambda x, y: ((x * FAR, 1), (y * FAR, 1))
        most = ((((FAR, 1), (-FAR, 1), (1, FAR), (-1, FAR)), ((far(-1, -1), far(1, -1), far(0, 1)),)),)
        self.assertIs(is_plan(most), True)
        self.assertEqual([edge[:2] for edge in plan_form(most)], [
            (far(-1, -1), far(0, 1)), (far(-1, -1), far(1, -1)), (far(0, 1), far(1, -1)),
        ])
        tiny = ((V, ((at(0, 0), ((1, FAR), (0, 1)), ((0, 1), (1, FAR - 1))),)),)
        self.assertEqual(len(plan_form(most + tiny)), 6)


class PlanFormTest(unittest.TestCase):
    def check(self, some, edges=None):
        found = plan_form(some)
        self.assertEqual(found, model_plan_form(some), some)
        if edges is not None:
            self.assertEqual(found, form(edges), some)

    def test_example(self):
        self.assertEqual(plan_form(plan(T)), form(T))
        self.assertEqual(count_corners(plan(T)), 3)
        self.assertEqual(plan_form(()), ())

    def test_over_one_another(self):
        low, high = square(0, 4), square(2, 6)
        self.check(told(low, value=RED) + told(high, value=BLUE), (fill(low), fill(high, colour=(0, 0, 1))))
        self.check(told(high, value=BLUE) + told(low, value=RED), (fill(high, colour=(0, 0, 1)), fill(low)))
        self.check(told(low, value=RED) + told(high, value=BLUE) + told(low, value=RED),
                   (fill(low), fill(high, colour=(0, 0, 1)), fill(low)))
        # Nothing is mixed: the last one shows, even if it can be seen through.
        self.check(told(low, value=RED) + told(low, value=V), (fill(low, opacity=(1, 2)),))
        self.check(told(low, value=V) + told(low, value=V), (fill(low, opacity=(1, 2)),))
        # A value that is told twice hides its own edges.
        beside = ((4, 0), (6, 0), (6, 4), (4, 4))
        self.check(told(low, value=RED) + told(beside, value=RED), (fill(((0, 0), (6, 0), (6, 4), (0, 4))),))

    def test_loops_together(self):
        # Of loops of one pair, only odd numbers count, so that they take from one another.
        self.check(told(square(0, 4), square(1, 3), value=RED), (fill(square(0, 4), square(1, 3)),))
        self.check(told(square(0, 4), square(2, 6), value=RED), (fill(square(0, 4), square(2, 6)),))
        self.check(told(square(0, 4), square(0, 4), value=RED), ())
        self.check(told(square(0, 4), square(0, 4)[::-1], value=RED), ())
        self.check(told(*[square(0, 4)] * 3, value=RED), (fill(square(0, 4)),))
        # What they take away shows an earlier pair.
        self.check(told(square(0, 4), value=BLUE) + told(square(0, 4), square(1, 3), value=RED),
                   (fill(square(0, 4), colour=(0, 0, 1)), fill(square(0, 4), square(1, 3))))
        self.check(told(square(0, 4), value=BLUE) + told(square(0, 4), square(0, 4), value=RED),
                   (fill(square(0, 4), colour=(0, 0, 1)),))

    def test_odd_loops(self):
        bow = ((0, 0), (2, 2), (2, 0), (0, 2))
        self.check(told(bow, value=RED), (fill(bow),))
        star = ((0, 3), (2, -3), (-3, 1), (3, 1), (-2, -3))
        self.check(told(star, value=RED), (fill(star),))
        twice = square(0, 4) * 2
        self.check(told(twice, value=RED), ())
        self.check(told(square(0, 4) * 3, value=RED), (fill(square(0, 4)),))
        spur = ((0, 0), (4, 0), (4, 4), (7, 4), (4, 4), (0, 4))
        self.check(told(spur, value=RED), (fill(square(0, 4)),))
        self.check(told(((0, 0), (4, 0), (4, 0), (4, 4), (4, 4), (0, 4), (0, 0)), value=RED), (fill(square(0, 4)),))
        self.check(told(((1, 1), (1, 1), (1, 1)), value=RED), ())
        self.check(told(((0, 0), (3, 3), (0, 0), (3, 3)), value=RED), ())

    def test_sequence_does_not_count_where_nothing_overlaps(self):
        drawing = (fill(square(0, 4)), fill(square(2, 6), colour=(0, 0, 1), opacity=(1, 2)), FILL)
        pairs = plan(drawing)
        self.assertEqual(plan_form(pairs[::-1]), form(drawing))
        self.assertEqual(plan_form(pairs + pairs), form(drawing))
        self.assertEqual(plan_form(tuple([(value, loops[::-1]) for value, loops in pairs])), form(drawing))
        turned = tuple([(value, tuple([each[::-1] for each in loops])) for value, loops in pairs])
        self.assertEqual(plan_form(turned), form(drawing))

    def test_model(self):
        chance = random.Random(45)
        for k in range(80):
            reach = (1, 2, 3)[k % 3]
            bottom = chance.choice((1, 1, 2, 7))
            some = []
            for _ in range(chance.randint(0, 5)):
                points = [at(chance.randint(-reach, reach), chance.randint(-reach, reach), bottom) for _ in range(21)]
                loops = [tuple(points[7 * k:7 * k + chance.randint(3, 7)]) for k in range(chance.randint(0, 3))]
                if loops and chance.random() < 0.3:
                    loops.append(loops[0][::chance.choice((1, -1))])
                some.append((chance.choice((RED, BLUE, V)), tuple(loops)))
            self.check(tuple(some))

    def test_great_numbers(self):
        chance = random.Random(46)
        for _ in range(15):
            great = 10 ** 25
            numbers = [number(chance.randint(-great, great), chance.randint(1, great)) for _ in range(24)]
            points = list(zip(numbers[::2], numbers[1::2]))
            self.check(((RED, (tuple(points[:4]), tuple(points[4:7]))), (BLUE, (tuple(points[7:]),))))

    def test_many_pairs(self):
        colours = (RED, GREEN, BLUE)
        some = tuple(pair for k in range(300) for pair in told(((k, 0), (k + 1, 0), (k + 1, 1), (k, 1)), value=colours[k % 3]))
        found = plan_form(some)
        self.assertEqual(len(found), 901)
        self.assertEqual(plan_form(some + told(((0, 0), (300, 0), (300, 1), (0, 1)), value=RED)), tuple([
            (at(0, 0), at(0, 1), NOTHING, RED), (at(0, 0), at(300, 0), RED, NOTHING), (at(0, 1), at(300, 1), NOTHING, RED),
            (at(300, 0), at(300, 1), RED, NOTHING),
        ]))
        self.assertEqual(count_corners(some), 1200)


class CountCornersTest(unittest.TestCase):
    def test_counts(self):
        for some, many in (
            ((), 0), (((V, ()),), 0), (plan(T), 3), (plan(Q), 4), (told(square(0, 4), ((1, 1), (1, 1), (1, 1)), value=RED), 7),
            (plan(T) * 3, 9), (plan((fill(square(0, 4), square(1, 3)),)), 8), (told(square(0, 2) * 5), 20),
        ):
            self.assertEqual(count_corners(some), many)


if __name__ == "__main__":
    unittest.main()
