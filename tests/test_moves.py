"""Pictures turned, mirrored, moved and enlarged: sections 2.5 and 11, guarantee (g)."""

import random
import unittest
from fractions import Fraction

from samepictures.errors import Blank, InvalidDrawing, InvalidMove
from samepictures.forms import form, seen
from samepictures.moves import enlargement, moves, turned_form
from tests.making import make_drawing
from tests.model import model
from tests.model_edges import model_form, plain
from tests.samples import (
    FILL, NOTHING, Q, RUB, SQUARE, T, TRIANGLE, V, WRONG, at, fill, group, number, square,
)

TURNS = [
    lambda x, y: (x, y), lambda x, y: (-y, x), lambda x, y: (-x, -y), lambda x, y: (y, -x),
    lambda x, y: (-x, y), lambda x, y: (-y, -x), lambda x, y: (x, -y), lambda x, y: (y, x),
]
WRONG_TURNS = [
    -1, 8, 9, -8, 100, 10 ** 40, True, False, None, 0.0, 1.0, 1.5, "", "1", "turn", b"1", (), (0,), (1, 2), [], [0], {}, {0: 0},
    (0, 1), V, T, FILL, float("nan"),
]
BLANKS = [(), (RUB,), (group(()),), (fill(*TRIANGLE[1] * 2),), (FILL, ("rub", SQUARE, (1, 1)))]
SCALENE = fill(((0, 0), (3, 0), (1, 1)))
# It looks different from all sides, and has two values.
FLAG = (fill(((0, 0), (3, 0), (1, 1))), fill(((1, 0), (2, 0), (2, 2)), colour=(0, 1, 0), opacity=(1, 2)))


def matrix_of(turn, x=0, y=0):
    """Return the matrix of a turn and of a move by integers."""
    return (*TURNS[turn](1, 0), *TURNS[turn](0, 1), x, y)


def numbers(point):
    return (Fraction(*point[0]), Fraction(*point[1]))


def lead(edges, map_point, is_mirrored):
    """Return the form with all points led by a function, worked out edge by edge."""
    found = []
    for start, end, left, right in edges:
        ends = [map_point(*numbers(point)) for point in (start, end)]
        if is_mirrored:
            left, right = right, left
        if ends[0] > ends[1]:
            ends, left, right = ends[::-1], right, left
        found.append((*ends, left, right))
    return tuple([(tuple(map(plain, start)), tuple(map(plain, end)), *sides) for start, end, *sides in sorted(found)])


def model_moves(drawing, other):
    """Return all moves, found by trying to put each start of an edge on the first one of the other form."""
    edges, others = form(drawing), form(other)
    found = []
    for turn, turning in enumerate(TURNS):
        turned = lead(edges, turning, turn > 3)
        goal = numbers(others[0][0])
        for start in sorted({numbers(edge[0]) for edge in turned}):
            shift = (goal[0] - start[0], goal[1] - start[1])
            if lead(turned, lambda x, y: (x + shift[0], y + shift[1]), False) == others:
                found.append((turn, shift))
    return tuple([(turn, tuple(map(plain, shift))) for turn, shift in sorted(found)])


def diamond(k):
    """Return a drawing of a picture whose corners have x 0, 1/4, 1/4 and 1/2, moved k times by (1/4, 1/2)."""
    rising = fill(((-2, -4), (2, 4), (2, 3), (-2, -5)))
    falling = ((-2, 4 + k), (2, k - 4), (2, k - 3), (-2, 5 + k))
    return (group((rising,), clip=("odd", (falling,))),)


def moved(drawing, turn, x=0, y=0):
    return (group(drawing, matrix=matrix_of(turn, x, y)),)


class TurnedFormTest(unittest.TestCase):
    def test_turns_of_a_point(self):
        # The corner opposite of the edge tells where each turn leads (2, 1).
        drawing = (fill(((0, 0), (2, 1), (1, 1))),)
        for turn, there in enumerate(((2, 1), (-1, 2), (-2, -1), (1, -2), (-2, 1), (-1, -2), (2, -1), (1, 2))):
            ends = {end for edge in turned_form(drawing, turn) for end in edge[:2]}
            self.assertIn(at(*there), ends)
            self.assertEqual(len(ends), 3)

    def test_sides(self):
        # Turned by a quarter, the lower edge with the inside above becomes the right one.
        self.assertEqual(turned_form(T, 1), (
            (at(-2, 0), at(0, 0), V, NOTHING), (at(-2, 0), at(0, 2), NOTHING, V), (at(0, 0), at(0, 2), V, NOTHING),
        ))
        self.assertEqual(turned_form(T, 4), (
            (at(-2, 0), at(0, 0), V, NOTHING), (at(-2, 0), at(0, 2), NOTHING, V), (at(0, 0), at(0, 2), V, NOTHING),
        ))
        self.assertEqual(turned_form(T, 7), form(T))
        self.assertEqual(turned_form(T, 0), form(T))

    def test_matrices(self):
        chance = random.Random(51)
        tried = 0
        while tried < 40:
            drawing = make_drawing(chance, (1, 2, 4, 9)[tried % 4])
            try:
                forms = [form(moved(drawing, turn)) for turn in range(8)]
            except InvalidDrawing:
                continue
            tried += 1
            for turn in range(8):
                self.assertEqual(turned_form(drawing, turn), forms[turn], (drawing, turn))
        for turn in range(8):
            self.assertEqual(turned_form(FLAG, turn), model_form(moved(FLAG, turn)))

    def test_points(self):
        chance = random.Random(52)
        for _ in range(5):
            drawing = make_drawing(chance, 3)
            for turn in range(8):
                self.assertEqual(turned_form(drawing, turn), lead(form(drawing), TURNS[turn], turn > 3))
        for turn in range(8):
            turned = moved(FLAG, turn)
            self.assertEqual(turned_form(FLAG, turn), form(turned))
            for _ in range(30):
                x, y = Fraction(chance.randint(-50, 350), 101), Fraction(chance.randint(-50, 250), 103)
                value = model(FLAG, (plain(x), plain(y)))
                if value is not None:
                    self.assertEqual(seen(turned, tuple(map(plain, TURNS[turn](x, y)))), value)

    def test_nothing(self):
        for drawing in BLANKS:
            for turn in range(8):
                self.assertEqual(turned_form(drawing, turn), ())

    def test_wrong_turns(self):
        for turn in WRONG_TURNS:
            for drawing in (T, (), FLAG):
                with self.assertRaises(InvalidMove, msg=turn):
                    turned_form(drawing, turn)

    def test_wrong_drawings(self):
        for value in WRONG:
            for turn in (0, -1, None):
                with self.assertRaises(InvalidDrawing, msg=value):
                    turned_form(value, turn)


class MovesTest(unittest.TestCase):
    def check(self, drawing, other):
        found = moves(drawing, other)
        self.assertEqual(found, model_moves(drawing, other), (drawing, other))
        return found

    def test_example(self):
        found = self.check(Q, Q)
        self.assertEqual(len(found), 8)
        self.assertEqual(found[0], (0, at(0, 0)))
        self.assertEqual(found, (
            (0, at(0, 0)), (1, at(2, 0)), (2, at(2, 2)), (3, at(0, 2)),
            (4, at(2, 0)), (5, at(2, 2)), (6, at(0, 2)), (7, at(0, 0)),
        ))

    def test_how_many(self):
        box = (fill(((0, 0), (3, 0), (3, 1), (0, 1))),)
        self.assertEqual([turn for turn, _ in self.check(box, box)], [0, 2, 4, 6])
        upright = (fill(((5, 5), (6, 5), (6, 8), (5, 8))),)
        self.assertEqual([turn for turn, _ in self.check(box, upright)], [1, 3, 5, 7])
        self.assertEqual([turn for turn, _ in self.check(T, T)], [0, 7])
        self.assertEqual([turn for turn, _ in self.check((SCALENE,), (SCALENE,))], [0])
        roof = (fill(((0, 0), (4, 0), (2, 1))),)
        self.assertEqual(self.check(roof, roof), ((0, at(0, 0)), (4, at(4, 0))))
        self.assertEqual(len(self.check(FLAG, FLAG)), 1)
        # The edges are alike from all sides, but not the values.
        halves = (fill(((0, 0), (1, 0), (1, 2), (0, 2))), fill(((1, 0), (2, 0), (2, 2), (1, 2)), colour=(0, 0, 1)))
        self.assertEqual([turn for turn, _ in self.check(halves, halves)], [0, 6])
        slanted = (fill(((0, 0), (2, 0), (3, 1), (1, 1))),)
        self.assertEqual(self.check(slanted, slanted), ((0, at(0, 0)), (2, at(3, 1))))

    def test_each_turn(self):
        for turn in range(8):
            other = moved(FLAG, turn, 7 - turn, -9)
            self.assertEqual(self.check(FLAG, other), ((turn, at(7 - turn, -9)),))
            back = {1: 3, 3: 1}.get(turn, turn)
            self.assertEqual([found for found, _ in self.check(other, FLAG)], [back])

    def test_fractions(self):
        corners = {end for edge in form(diamond(1)) for end in edge[:2]}
        self.assertEqual(corners, {at(1, 2, 4), at(2, 0, 4), at(2, 4, 4), at(3, 2, 4)})
        found = self.check(diamond(0), diamond(1))
        self.assertEqual(found, (
            (0, at(1, 2, 4)), (2, (number(3, 4), number(1, 2))), (4, (number(3, 4), number(1, 2))), (6, at(1, 2, 4)),
        ))
        self.assertEqual(self.check(diamond(3), diamond(0))[0], (0, (number(-3, 4), number(-3, 2))))
        self.assertEqual(self.check(diamond(0), moved(diamond(1), 3, 5, -6))[0][0], 1)
        # The left and the right half of a loop that crosses itself at (1/2, 1/2).
        bow = fill(((0, 0), (1, 1), (1, 0), (0, 1)))
        rubbed = [((1, 0), (1, 1), (0, 1)), ((0, 0), (1, 0), (0, 1))]
        left, right = [(bow, ("rub", ("odd", (loop,)), (1, 1))) for loop in rubbed]
        self.assertEqual(self.check(left, right), ((2, at(1, 1)), (4, at(1, 0))))
        self.assertEqual(self.check(right, left), ((2, at(1, 1)), (4, at(1, 0))))

    def test_drawn_otherwise(self):
        whole = (fill(((0, 0), (4, 0), (4, 2), (1, 3)), opacity=(3, 4)),)
        again = (
            group((fill(((4, 2), (1, 3), (0, 0), (2, 0), (4, 0)), opacity=(1, 2)),) * 2, matrix=matrix_of(5, 2, 9)),
            ("rub", SQUARE, (1, 6)),
        )
        self.assertEqual(self.check(whole, again), ((5, at(2, 9)),))

    def test_unlike_pictures(self):
        for drawing, other in (
            (T, Q), (Q, T), (Q, (fill(square(0, 2)),)), (Q, (fill(square(0, 2), colour=(0, 1, 0), opacity=(1, 2)),)),
            (Q, (fill(square(0, 3), opacity=(1, 2)),)), (Q, (fill(((0, 0), (2, 0), (2, 3), (0, 3)), opacity=(1, 2)),)),
            ((fill(((0, 0), (4, 0), (4, 4), (1, 4))),), (fill(((0, 0), (4, 0), (4, 4), (2, 4))),)),
            ((fill(square(0, 4), square(1, 2)),), (fill(square(0, 4), ((1, 1), (3, 1), (3, 2), (1, 2))),)),
            ((fill(square(0, 5), square(1, 2)),), (fill(square(0, 5), square(2, 3)),)),
            ((fill(((0, 0), (4, 0), (4, 4), (0, 4)), square(1, 2)),), (fill(square(0, 4)),)),
            ((fill(square(0, 2)), fill(square(3, 4))), (fill(square(0, 2)), fill(square(4, 5)))),
        ):
            self.assertEqual(self.check(drawing, other), ())
        # Like bounds, but the corner is another one: these are turned.
        self.assertEqual(
            [turn for turn, _ in self.check((fill(square(0, 5), square(1, 2)),), (fill(square(0, 5), square(3, 4)),))], [2, 5],
        )

    def test_model(self):
        chance = random.Random(53)
        alike = 0
        while alike < 30:
            drawing = make_drawing(chance, (1, 1, 2, 3)[alike % 4])[:2]
            other = moved(drawing, chance.randrange(8), chance.randint(-9, 9), chance.randint(-9, 9))
            try:
                if not form(drawing) or not form(other):
                    continue
            except InvalidDrawing:
                continue
            alike += 1
            self.assertNotEqual(self.check(drawing, other), ())
            self.assertNotEqual(self.check(other, drawing), ())
            almost = (*drawing, fill(((8, 8), (9, 8), (9, 9))))
            self.assertEqual(self.check(almost, other), ())

    def test_shifts_lead_there(self):
        for turn, (x, y) in moves(diamond(2), moved(diamond(1), 5, 3, 4)):
            led = lead(turned_form(diamond(2), turn), lambda a, b: (a + Fraction(*x), b + Fraction(*y)), False)
            self.assertEqual(led, form(moved(diamond(1), 5, 3, 4)))

    def test_blank(self):
        for function in (moves, enlargement):
            for drawing in BLANKS:
                for arguments in ((drawing, T), (T, drawing), (drawing, drawing), (drawing, ())):
                    with self.assertRaises(Blank):
                        function(*arguments)

    def test_wrong_drawings(self):
        for value in WRONG:
            for function in (moves, enlargement):
                for arguments in ((value, T), (T, value), (value, None), (value, ()), ((), value)):
                    with self.assertRaises(InvalidDrawing, msg=value):
                        function(*arguments)


class EnlargementTest(unittest.TestCase):
    def check(self, drawing, other, factor, x, y):
        """Check the factor and the shift, and those that lead back."""
        self.assertEqual(enlargement(drawing, other), (plain(Fraction(factor)), (plain(Fraction(x)), plain(Fraction(y)))))
        back = 1 / Fraction(factor)
        self.assertEqual(enlargement(other, drawing), (plain(back), (plain(-x * back), plain(-y * back))))
        led = lead(form(drawing), lambda a, b: (a * Fraction(factor) + x, b * Fraction(factor) + y), False)
        self.assertEqual(led, form(other))

    def test_same(self):
        for drawing in (T, Q, FLAG, diamond(1), (SCALENE, RUB)):
            self.assertEqual(enlargement(drawing, drawing), ((1, 1), at(0, 0)))

    def test_factors(self):
        for matrix, factor in (((2, 0, 0, 2, 5, -7), 2), ((1, 0, 0, 1, -9, 9), 1)):
            for drawing in (FLAG, T, Q, diamond(0)):
                self.check(drawing, (group(drawing, matrix=matrix),), Fraction(factor), *matrix[4:])
        self.check((fill(square(0, 2)),), (fill(square(-1, 2)),), Fraction(3, 2), -1, -1)
        self.check((fill(square(4, 9)),), (fill(square(-1, 1)),), Fraction(2, 5), Fraction(-13, 5), Fraction(-13, 5))
        self.check((fill(((0, 0), (3, 0), (0, 6))),), (fill(((1, 1), (3, 1), (1, 5))),), Fraction(2, 3), 1, 1)
        half = Fraction(1, 2)
        self.check((fill(((-9, -9), (9, -9), (-9, 9))),), (fill(((0, 0), (1, 0), (0, 1))),), half / 9, half, half)

    def test_diamonds(self):
        large = (fill(((0, 0), (1, -2), (2, 0), (1, 2))),)
        self.check(diamond(0), large, Fraction(4), 0, 0)
        self.check(diamond(1), large, Fraction(4), -1, -2)
        self.check(diamond(1), diamond(4), Fraction(1), Fraction(3, 4), Fraction(3, 2))
        self.check((fill(((0, 0), (3, -6), (6, 0), (3, 6))),), diamond(0), Fraction(1, 12), 0, 0)

    def test_first_edge_upright(self):
        self.check((fill(((0, 0), (0, 2), (2, 3))),), (fill(((1, -1), (1, 3), (5, 5))),), Fraction(2), 1, -1)
        self.check((fill(((-4, 4), (-4, -2), (0, 0))),), (fill(((1, 4), (1, 1), (3, 2))),), Fraction(1, 2), 3, 2)
        self.assertIsNone(enlargement((fill(((0, 0), (0, 2), (2, 3))),), (fill(((0, 0), (2, -1), (2, 3))),)))
        self.assertIsNone(enlargement((fill(((0, 0), (2, -1), (2, 3))),), (fill(((0, 0), (0, 2), (2, 3))),)))

    def test_none(self):
        small, large = fill(square(0, 2)), fill(square(0, 4))
        for drawing, other in (
            (T, Q), (FLAG, moved(FLAG, 1)), (FLAG, moved(FLAG, 2)), (FLAG, moved(FLAG, 4)), (FLAG, moved(FLAG, 7, 3, 3)),
            (FLAG, (group(FLAG, matrix=(2, 0, 0, 1, 0, 0)),)), (FLAG, (group(FLAG, matrix=(1, 0, 0, 2, 0, 0)),)),
            (FLAG, (group(FLAG, matrix=(-2, 0, 0, -2, 0, 0)),)), (FLAG, (group(FLAG, matrix=(1, 0, 1, 1, 0, 0)),)),
            (FLAG, FLAG[:1]), (FLAG[:1], FLAG), (FLAG, (FLAG[0], (*FLAG[1][:3], (1, 3)))),
            ((small,), (fill(square(0, 4), opacity=(1, 2)),)), ((small,), (fill(square(0, 4), colour=(0, 1, 0)),)),
            ((small, fill(square(3, 4))), (large, fill(square(7, 8)))), ((small,), (fill(((0, 0), (4, 0), (4, 5), (0, 5))),)),
            ((small, fill(square(3, 4))), (large,)), (T, moved(T, 1)),
        ):
            self.assertIsNone(enlargement(drawing, other), (drawing, other))
            self.assertIsNone(enlargement(other, drawing))
        self.assertEqual(enlargement((small, fill(square(3, 4))), (large, fill(square(6, 8)))), ((2, 1), at(0, 0)))

    def test_model(self):
        chance = random.Random(54)
        alike = 0
        while alike < 25:
            drawing = make_drawing(chance, (1, 2, 3)[alike % 3])[:2]
            x, y = chance.randint(-9, 9), chance.randint(-9, 9)
            other = (group(drawing, matrix=(2, 0, 0, 2, x, y)),)
            try:
                if not form(other):
                    continue
            except InvalidDrawing:
                continue
            alike += 1
            self.check(drawing, other, Fraction(2), x, y)
            self.assertIsNone(enlargement((*drawing, fill(((8, 8), (9, 8), (9, 9)), colour=(9, 9, 9))), other))


if __name__ == "__main__":
    unittest.main()
