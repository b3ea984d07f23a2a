"""Regions: sections 2.7 and 7, guarantee (c)."""

import random
import unittest
from fractions import Fraction

from samepictures.errors import Blank, InvalidRegion, InvalidShape
from samepictures.loops import is_inside, is_on_shape
from samepictures.lines import spot_of
from samepictures.regions import (
    area, box, common, count_holes, either, is_region, is_within, parts, region, united, without,
)
from tests.making import make_shape
from tests.model import is_in
from tests.model_edges import loop_edges, trace
from tests.model_parts import model_holes, model_parts
from tests.samples import FAR, SQUARE, T, TRIANGLE, WRONG, WRONG_FRACTIONS, WRONG_POINTS, at, number, square

TRIANGLE_REGION = ((at(0, 0), at(0, 2), False), (at(0, 0), at(2, 0), True), (at(0, 2), at(2, 0), False))
COMBINING = (united, common, without, either)


def odd(*loops):
    """Return the region of loops by the rule odd."""
    return region(("odd", loops))


def turns(*loops):
    return region(("turns", loops))


def numbers(point):
    return (Fraction(*point[0]), Fraction(*point[1]))


def area_by_strips(some):
    """Return the area, worked out from the edges as trapezoids."""
    found = Fraction(0)
    for start, end, left in some:
        (start_x, start_y), (end_x, end_y) = numbers(start), numbers(end)
        found += (end_x - start_x) * (start_y + end_y) / 2 * (-1 if left else 1)
    return (found.numerator, found.denominator)


def is_inside_region(some, x, y):
    """Return whether the point, which lies on no edge, is inside."""
    lefts = []
    for start, end, left in some:
        (start_x, start_y), (end_x, end_y) = numbers(start), numbers(end)
        if start_x <= x < end_x:
            height = start_y + (x - start_x) * (end_y - start_y) / (end_x - start_x)
            if height < y:
                lefts.append((height, left))
    return len(lefts) % 2 == 1


def led(some, across, aside, up, slant, upward):
    """Return the region with each point (x, y) led to (across * x + aside, up * y + slant * x + upward).

    With across and up greater than 0, the edges stay in their sequence and keep their sides.
    """
    def lead(point):
        x, y = numbers(point)
        there = (across * x + aside, up * y + slant * x + upward)
        return tuple([(part.numerator, part.denominator) for part in there])

    return tuple([(lead(start), lead(end), left) for start, end, left in some])


def squares(many):
    """Return a region of so many squares side by side."""
    found = []
    for k in range(many):
        low, high, right, end = at(3 * k, 0), at(3 * k, 2), at(3 * k + 2, 0), at(3 * k + 2, 2)
        found += [(low, high, False), (low, right, True), (high, end, False), (right, end, True)]
    return tuple(found)


class RegionTest(unittest.TestCase):
    def test_examples(self):
        self.assertEqual(region(T[0][1]), TRIANGLE_REGION)
        self.assertEqual(area(region(T[0][1])), (2, 1))

    def test_rules(self):
        ring = odd(square(0, 4), square(1, 3))
        self.assertEqual(area(ring), (12, 1))
        self.assertEqual(turns(square(0, 4), square(1, 3)), odd(square(0, 4)))
        self.assertEqual(turns(square(0, 4), square(1, 3)[::-1]), ring)
        self.assertEqual(odd(square(0, 4), square(1, 3)[::-1]), ring)
        self.assertEqual(odd(square(0, 4), square(0, 4)), ())
        self.assertEqual(turns(square(0, 4), square(0, 4)), odd(square(0, 4)))
        self.assertEqual(turns(square(0, 4), square(0, 4)[::-1]), ())
        self.assertEqual(turns(square(0, 4)[::-1]), odd(square(0, 4)))
        self.assertEqual(odd(((0, 0), (3, 3), (0, 0))), ())
        self.assertEqual(odd(((1, 1), (1, 1), (1, 1))), ())

    def test_star(self):
        star = ((0, 3), (2, -3), (-3, 1), (3, 1), (-2, -3))
        self.assertEqual(len(odd(star)), 15)
        self.assertEqual(len(turns(star)), 10)
        self.assertEqual(count_holes(odd(star)), 1)
        self.assertEqual(count_holes(turns(star)), 0)

    def test_model(self):
        chance = random.Random(11)
        for k in range(200):
            shape = make_shape(chance, (1, 2, 3, 9)[k % 4])
            edges = trace(loop_edges(shape, ()), lambda x, y: is_in(shape, x, y))
            some = region(shape)
            self.assertEqual(some, tuple([(start, end, left) for start, end, left, _ in edges]), shape)
            self.assertIs(is_region(some), True)
            self.assertTrue(all(isinstance(left, bool) for _, _, left in some))
            self.assertEqual(area(some), area_by_strips(some))

    def test_wrong_shapes(self):
        for value in [*WRONG, T, T[0], ("even", SQUARE[1]), ("odd", ()), ("odd", [square(0, 1)]), TRIANGLE_REGION]:
            with self.assertRaises(InvalidShape, msg=value):
                region(value)


class IsRegionTest(unittest.TestCase):
    def wrong(self, value):
        self.assertIs(is_region(value), False, value)
        some = odd(square(0, 1))
        for function in (area, box, parts, count_holes):
            with self.assertRaises(InvalidRegion, msg=value):
                function(value)
        for function in (*COMBINING, is_within):
            for arguments in ((value, some), (some, value), (value, None), (None, some), (value, value)):
                with self.assertRaises(InvalidRegion, msg=value):
                    function(*arguments)

    def test_regions(self):
        for value in ((), TRIANGLE_REGION, odd(square(0, 4), square(1, 3)), squares(30)):
            self.assertIs(is_region(value), True)

    def test_values_of_other_kinds(self):
        # The empty tuple is a region, so that among the wrong drawings none is left out.
        for value in WRONG + WRONG_POINTS[-40:] + [True, 1.5, T, T[0], TRIANGLE, list(TRIANGLE_REGION)]:
            if value != ():
                self.wrong(value)

    def test_one_edge_wrong(self):
        first, second, third = TRIANGLE_REGION
        start, end, left = first
        wrong = [
            (first,), (first, second), (second, third), (first, third), (second, first, third), (first, third, second),
            (third, second, first), (first, first, second, third), (first, second, third, third), (first,) * 2,
            ((end, start, left), second, third), ((end, start, not left), second, third),
            ((start, end, not left), second, third), ((start, end), second, third), (first, second, (*third, True)),
            ((start, at(0, 1), left), (at(0, 1), end, left), second, third),
            ((start, at(0, 1), left), second, (at(0, 1), end, left), third),
            (first, (at(0, 0), at(1, 0), True), third, (at(1, 0), at(2, 0), True)),
            (first, (at(0, 0), at(1, 0), True), (at(1, 0), at(2, 0), True), third),
            ((start, start, left), first, second, third), (((0, 0), (0, 2), False), second, third),
            (list(first), second, third), [first, second, third], (([*start], end, left), second, third),
            ((([0, 1], (0, 1)), end, left), second, third), (first, second, third, ()), (first, second, third, None),
            (*TRIANGLE_REGION, *TRIANGLE_REGION), tuple((start, end, not left) for start, end, left in TRIANGLE_REGION),
        ]
        for value in wrong:
            self.wrong(value)
        for side in (0, 1, None, "True", (True,), [True], 1.0, 0.0, -1):
            self.wrong(((start, end, side), second, third))
            self.wrong((first, (second[0], second[1], side), third))

    def test_numbers_wrong(self):
        first, second, third = TRIANGLE_REGION
        for value in WRONG_FRACTIONS + [(False, 1), (0, True), (2, 4)]:
            self.wrong((((value, (0, 1)), at(0, 2), False), second, third))
            self.wrong(((at(0, 0), ((0, 1), value), False), second, third))
            self.wrong((first, second, (at(0, 2), (value, (0, 1)), False)))
        doubled = (((0, 1), (0, 2)), ((0, 1), (4, 2)))
        self.wrong(((*doubled, False), second, third))

    def test_bounds(self):
        far = lambda x, y: ((x * FAR, 1), (y * FAR, 1))
        most = ((far(-1, -1), far(-1, 1), False), (far(-1, -1), far(1, -1), True), (far(-1, 1), far(1, -1), False))
        self.assertIs(is_region(most), True)
        self.assertEqual(area(most), (2 * FAR * FAR, 1))
        self.assertEqual(box(most), ((-FAR, 1), (-FAR, 1), (FAR, 1), (FAR, 1)))
        self.assertEqual(without(most, most), ())
        beyond = ((FAR + 1, 1), (-FAR, 1))
        self.wrong((most[0], (far(-1, -1), beyond, True), (far(-1, 1), beyond, False)))
        tiny = (((1, FAR), (1, FAR)), ((1, FAR), (1, FAR - 1)), ((1, FAR - 1), (1, FAR)))
        small = ((tiny[0], tiny[1], False), (tiny[0], tiny[2], True), (tiny[1], tiny[2], False))
        self.assertIs(is_region(small), True)
        self.assertEqual(area(small), area_by_strips(small))
        self.assertEqual(area(either(most, small)), area_by_strips(either(most, small)))
        side = (1, FAR * (FAR - 1))
        self.assertEqual(area(small), (1, 2 * side[1] * side[1]))

    def test_crossing_edges(self):
        # Two squares, not cut where they cross.
        both = sorted(odd(square(0, 4)) + odd(square(2, 6)))
        self.wrong(tuple(both))
        bow = ((at(0, 0), at(0, 2), False), (at(0, 0), at(2, 2), False), (at(0, 2), at(2, 0), True), (at(2, 0), at(2, 2), True))
        self.wrong(bow)
        # Three edges that cross at one point do not change their sides there.
        loop = ((-2, -1), (2, 1), (2, 2), (-2, -2), (-1, -2), (1, 2), (1, 0), (-1, 0))
        star = ((-3, 0), (3, 0), (2, 2), (-2, -2), (2, -2), (-2, 2))
        for some in (odd(star), odd(loop)):
            self.assertIs(is_region(some), True)
        self.assertIn((at(-2, -2), at(2, 2)), [edge[:2] for edge in odd(star)])
        self.assertIn((at(-2, 2), at(2, -2)), [edge[:2] for edge in odd(star)])

    def test_changed_regions(self):
        chance = random.Random(12)
        for k in range(60):
            some = region(make_shape(chance, (2, 3, 9)[k % 3]))
            if not some:
                continue
            at_edge = chance.randrange(len(some))
            ahead, (start, end, left), behind = some[:at_edge], some[at_edge], some[at_edge + 1:]
            (start_x, start_y), (end_x, end_y) = numbers(start), numbers(end)
            half = tuple((n.numerator, n.denominator) for n in ((start_x + end_x) / 2, (start_y + end_y) / 2))
            wrong = [
                ahead + behind, (*ahead, (start, end, left), (start, end, left), *behind),
                (*ahead, (start, end, not left), *behind), (*ahead, (end, start, left), *behind),
                (*ahead, (end, start, not left), *behind), (*ahead, (start, half, left), *behind),
                (*ahead, (start, end, int(left)), *behind), (*ahead, [start, end, left], *behind),
                tuple(sorted((*ahead, (start, half, left), (half, end, left), *behind),
                             key=lambda edge: (numbers(edge[0]), numbers(edge[1])))),
            ]
            for value in wrong:
                self.wrong(value)
            self.wrong(some[::-1])
            self.wrong((*some[1:], some[0]))

    def test_most_edges(self):
        most = squares(1250)
        self.assertEqual(len(most), 5000)
        self.assertIs(is_region(most), True)
        self.assertEqual(area(most), (5000, 1))
        more = squares(1251)
        self.wrong(more)
        corners = ((-9, 0), (-7, 0), (-7, 1), (-8, 2), (-9, 1))
        self.assertIs(is_region(odd(corners) + squares(1248)), True)
        self.assertEqual(len(odd(corners) + squares(1249)), 5001)
        self.wrong(odd(corners) + squares(1249))
        # Results may have more edges than arguments.
        shifted = tuple([(at(x[0], y[0] + 1), at(z[0], w[0] + 1), left) for (x, y), (z, w), left in most])
        self.assertEqual(area(united(most, shifted)), (7500, 1))
        self.assertEqual(len(either(most, shifted)), 10000)

    def test_many_crossing_edges(self):
        chance = random.Random(13)
        # There are millions of crossings: the first one tells that this is not a region.
        points = [(chance.randint(-9999, 9999), chance.randint(-9999, 9999)) for _ in range(5000)]
        edges = sorted(sorted(pair) for pair in zip(points, points[1:] + points[:1]) if pair[0] != pair[1])
        self.assertIs(is_region(tuple([(at(*start), at(*end), True) for start, end in edges])), False)


class CombiningTest(unittest.TestCase):
    def test_squares(self):
        one, other = odd(square(0, 4)), odd(square(2, 6))
        self.assertEqual(common(one, other), odd(square(2, 4)))
        self.assertEqual(area(united(one, other)), (28, 1))
        self.assertEqual(area(without(one, other)), (12, 1))
        self.assertEqual(either(one, other), odd(square(0, 4), square(2, 6)))
        self.assertEqual(united(one, other), turns(square(0, 4), square(2, 6)))

    def test_touching(self):
        left, right = odd(square(0, 2)), odd(((2, 0), (4, 0), (4, 2), (2, 2)))
        long = odd(((0, 0), (4, 0), (4, 2), (0, 2)))
        self.assertEqual(united(left, right), long)
        self.assertEqual(either(left, right), long)
        self.assertEqual(common(left, right), ())
        self.assertEqual(without(long, left), right)
        self.assertEqual(without(left, right), left)
        corner = odd(square(2, 4))
        self.assertEqual(common(left, corner), ())
        self.assertEqual(united(left, corner), tuple(sorted(left + corner, key=lambda edge: numbers(edge[0]) + numbers(edge[1]))))
        half = odd(((2, 1), (4, 1), (4, 3), (2, 3)))
        self.assertEqual(area(united(left, half)), (8, 1))
        self.assertIn((at(2, 0), at(2, 1), True), united(left, half))
        self.assertIn((at(2, 2), at(2, 3), False), united(left, half))

    def test_edges_on_one_line(self):
        low, high = odd(((0, 0), (2, 0), (1, -2))), odd(((2, 0), (4, 0), (3, 2)))
        self.assertEqual(len(united(low, high)), 6)
        beside = odd(((2, 0), (4, 0), (3, -2)))
        self.assertEqual(len(united(low, beside)), 5)
        self.assertIn((at(0, 0), at(4, 0), False), united(low, beside))

    def test_empty_and_same(self):
        some = odd(square(0, 4), square(1, 3))
        for function, alone, itself in ((united, some, some), (common, (), some), (without, some, ()), (either, some, ())):
            self.assertEqual(function(some, ()), alone)
            self.assertEqual(function(some, some), itself)
            self.assertEqual(function((), ()), ())
        self.assertEqual(without((), some), ())
        self.assertEqual(either((), some), some)
        self.assertEqual(united((), some), some)
        self.assertEqual(common((), some), ())

    def test_points(self):
        chance = random.Random(14)
        tests = (lambda p, q: p or q, lambda p, q: p and q, lambda p, q: p and not q, lambda p, q: p != q)
        for k in range(120):
            one, other = make_shape(chance, (2, 3, 9)[k % 3]), make_shape(chance, (2, 3, 9)[k % 3])
            results = [function(region(one), region(other)) for function in COMBINING]
            for some in results:
                self.assertIs(is_region(some), True)
            for _ in range(15):
                point = at(chance.randint(-900, 900), chance.randint(-900, 900), 199)
                spot = spot_of(point)
                if is_on_shape(one, spot) or is_on_shape(other, spot):
                    continue
                for some, test in zip(results, tests):
                    self.assertEqual(
                        is_inside_region(some, *numbers(point)), test(is_inside(one, spot), is_inside(other, spot)),
                    )

    def test_laws(self):
        chance = random.Random(15)
        for k in range(60):
            reach = (1, 2, 3, 9)[k % 4]
            one, other, third = [region(make_shape(chance, reach)) for _ in range(3)]
            both = common(one, other)
            self.assertEqual(united(one, other), united(other, one))
            self.assertEqual(both, common(other, one))
            self.assertEqual(either(one, other), united(without(one, other), without(other, one)))
            self.assertEqual(either(one, other), without(united(one, other), both))
            self.assertEqual(united(without(one, other), both), one)
            self.assertEqual(common(one, united(other, third)), united(both, common(one, third)))
            self.assertEqual(without(one, united(other, third)), without(without(one, other), third))
            self.assertEqual(either(either(one, other), other), one)
            added = Fraction(*area(one)) + Fraction(*area(other))
            self.assertEqual(added, Fraction(*area(united(one, other))) + Fraction(*area(both)))

    def test_great_numbers(self):
        chance = random.Random(18)
        great = 10 ** 7
        for k in range(60):
            maps = [Fraction(chance.randint(-great, great), chance.randint(1, great)) for _ in range(5)]
            maps[0], maps[2] = abs(maps[0]) + Fraction(1, great), abs(maps[2]) + Fraction(1, great)
            shapes = [make_shape(chance, (2, 3, 9)[k % 3]) for _ in range(2)]
            if k % 2:
                # All corners come close to one another, and lie far away.
                maps[0], maps[1] = Fraction(1, great + 1), Fraction(great ** 2 + 1, 3)
            one, other = [region(shape) for shape in shapes]
            far_one, far_other = led(one, *maps), led(other, *maps)
            self.assertTrue(is_region(far_one) and is_region(far_other))
            for function in COMBINING:
                self.assertEqual(function(far_one, far_other), led(function(one, other), *maps))
            self.assertEqual(is_within(far_one, far_other), is_within(one, other))
            self.assertEqual(parts(far_one), tuple([led(part, *maps) for part in parts(one)]))
            self.assertEqual(count_holes(far_one), count_holes(one))
            self.assertEqual(Fraction(*area(far_one)), Fraction(*area(one)) * maps[0] * maps[2])

    def test_is_within(self):
        chance = random.Random(16)
        self.assertIs(is_within((), ()), True)
        self.assertIs(is_within((), TRIANGLE_REGION), True)
        self.assertIs(is_within(TRIANGLE_REGION, ()), False)
        self.assertIs(is_within(TRIANGLE_REGION, TRIANGLE_REGION), True)
        self.assertIs(is_within(TRIANGLE_REGION, odd(square(0, 2))), True)
        self.assertIs(is_within(odd(square(0, 2)), TRIANGLE_REGION), False)
        self.assertIs(is_within(odd(square(1, 3)), odd(square(0, 4), square(1, 3))), False)
        for _ in range(40):
            one, other = region(make_shape(chance, 3)), region(make_shape(chance, 3))
            self.assertIs(is_within(one, other), common(one, other) == one)
            self.assertIs(is_within(common(one, other), one), True)
            self.assertIs(is_within(one, united(one, other)), True)


class MeasuringTest(unittest.TestCase):
    def test_area(self):
        self.assertEqual(area(()), (0, 1))
        self.assertEqual(area(odd(square(-9, 9))), (324, 1))
        self.assertEqual(area(odd(((0, 0), (1, 0), (0, 1)))), (1, 2))
        self.assertEqual(area(odd(((-3, -3), (-2, -3), (-2, -1)))), (1, 1))
        bow = odd(((0, 0), (3, 3), (3, 0), (0, 2)))
        self.assertEqual(area(bow), area_by_strips(bow))

    def test_box(self):
        self.assertEqual(box(TRIANGLE_REGION), (*at(0, 0), *at(2, 2)))
        self.assertEqual(box(odd(((-3, 1), (5, -7), (2, 8)))), (*at(-3, -7), *at(5, 8)))
        bow = common(odd(((0, 0), (3, 3), (3, 0), (0, 2))), odd(((-9, -9), (2, -9), (2, 9), (-9, 9))))
        self.assertEqual(box(bow), (*at(0, 0), (2, 1), (2, 1)))
        small = common(odd(((0, 0), (3, 1), (3, 2))), odd(((0, 1), (3, 0), (3, 2))))
        points = [numbers(end) for edge in small for end in edge[:2]]
        xs, ys = zip(*points)
        self.assertEqual([Fraction(*part) for part in box(small)], [min(xs), min(ys), max(xs), max(ys)])
        with self.assertRaises(Blank):
            box(())


class PartsTest(unittest.TestCase):
    def test_empty(self):
        self.assertEqual(parts(()), ())
        self.assertEqual(count_holes(()), 0)

    def test_touching_corners(self):
        corner = united(odd(square(0, 2)), odd(square(2, 4)))
        self.assertEqual(parts(corner), (odd(square(0, 2)), odd(square(2, 4))))
        bow = odd(((0, 0), (4, 4), (4, 0), (0, 4)))
        self.assertEqual(parts(bow), (odd(((0, 0), (2, 2), (0, 4))), odd(((4, 0), (2, 2), (4, 4)))))
        self.assertEqual([count_holes(some) for some in (corner, bow)], [0, 0])
        # The corner of one part in the midst of an edge of the other one.
        midst = odd(((0, 0), (4, 0), (4, 2), (0, 2)), ((2, 2), (3, 4), (1, 4)))
        self.assertEqual(parts(midst), (odd(((0, 0), (4, 0), (4, 2), (0, 2))), odd(((2, 2), (3, 4), (1, 4)))))
        # One edge of the region, parts of which bound two triangles.
        row = united(odd(((0, 0), (2, 0), (1, 1))), odd(((2, 0), (4, 0), (3, 1))))
        self.assertEqual(len(row), 5)
        self.assertEqual(parts(row), (odd(((0, 0), (2, 0), (1, 1))), odd(((2, 0), (4, 0), (3, 1)))))

    def test_part_that_touches_itself(self):
        # A ring that meets itself at a corner is one part, and its inner side is a hole.
        ring = odd(((0, 0), (6, 0), (6, 6), (3, 0), (0, 6)), ((0, 0), (6, 0), (6, -3), (0, -3)))
        self.assertEqual(parts(ring), model_parts(ring))
        pinched = odd(square(0, 6), ((0, 0), (2, 1), (1, 2)))
        self.assertEqual(parts(pinched), (pinched,))
        self.assertEqual(count_holes(pinched), 1)

    def test_holes(self):
        self.assertEqual(count_holes(odd(square(0, 4))), 0)
        self.assertEqual(count_holes(odd(square(0, 4), square(1, 3))), 1)
        touching = odd(square(0, 8), square(1, 3), square(3, 5))
        self.assertEqual(count_holes(touching), 2)
        self.assertEqual(parts(touching), (touching,))
        self.assertEqual(count_holes(odd(square(0, 8), ((0, 4), (2, 3), (2, 5)))), 1)
        self.assertEqual(count_holes(odd(square(0, 8), ((0, 3), (2, 3), (2, 5), (0, 5)))), 0)
        closed = odd(square(0, 8), ((0, 4), (4, 0), (8, 4), (4, 8)))
        self.assertEqual(len(parts(closed)), 4)
        self.assertEqual(count_holes(closed), 1)
        two = united(odd(square(0, 4), square(1, 3)), odd(((5, 5), (9, 5), (9, 9), (5, 9)), square(6, 8)))
        self.assertEqual(count_holes(two), 2)

    def test_part_within_a_hole(self):
        nested = odd(square(0, 9), square(1, 8), square(3, 6))
        self.assertEqual(parts(nested), (odd(square(0, 9), square(1, 8)), odd(square(3, 6))))
        self.assertEqual(count_holes(nested), 1)
        deep = either(nested, odd(square(4, 5)))
        self.assertEqual(parts(deep), (odd(square(0, 9), square(1, 8)), odd(square(3, 6), square(4, 5))))
        self.assertEqual(count_holes(deep), 2)

    def test_sequence(self):
        # All begin at x = 0: the second one at a point, the third one with an upright edge.
        low, corner, high = ((0, -5), (5, -5), (0, -4)), ((0, 0), (3, -3), (3, 3)), ((0, 5), (1, 4), (0, 8))
        some = odd(high, low, corner)
        self.assertEqual(parts(some), (odd(low), odd(corner), odd(high)))
        # They begin at the same point; the one with the lower edge just to the right comes first.
        fan = odd(((0, 0), (9, 5), (9, 7)), ((0, 0), (3, -1), (3, 0)), ((0, 0), (9, 1), (5, 2)))
        self.assertEqual(
            parts(fan), (odd(((0, 0), (3, -1), (3, 0))), odd(((0, 0), (9, 1), (5, 2))), odd(((0, 0), (9, 5), (9, 7)))),
        )
        # The upper one begins with an upright edge whose lower end is lower than the point of the other one.
        later = odd(((1, 0), (4, 0), (4, 1)), ((0, 3), (4, 3), (4, 9)), ((0, 2), (4, 1), (4, 2)))
        self.assertEqual([some[0][0] for some in parts(later)], [at(0, 2), at(0, 3), at(1, 0)])
        # A slope of 2 upward, and an upright edge ending in the same point.
        steep = odd(((0, 0), (0, 3), (-2, 4)), ((0, 0), (2, 4), (1, 3)), ((0, 0), (0, -3), (1, -1)))
        self.assertEqual(parts(steep), model_parts(steep))
        self.assertEqual(len(parts(steep)), 3)

    def test_model(self):
        chance = random.Random(17)
        many, holes = 0, 0
        for k in range(75):
            reach = (1, 2, 2, 3, 9)[k % 5]
            some = region(make_shape(chance, reach))
            if k % 3 == 0:
                some = COMBINING[k % 4](some, region(make_shape(chance, reach)))
            found = parts(some)
            self.assertEqual(found, model_parts(some), some)
            self.assertEqual(count_holes(some), model_holes(some), some)
            self.assertTrue(all(is_region(part) and parts(part) == (part,) for part in found))
            whole = ()
            for part in found:
                self.assertEqual(common(whole, part), ())
                whole = united(whole, part)
            self.assertEqual(whole, some)
            many += len(found) > 1
            holes += count_holes(some) > 0
        self.assertGreater(min(many, holes), 10)


if __name__ == "__main__":
    unittest.main()
