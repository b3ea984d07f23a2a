"""Texts of drawings: section 5."""

import random
import unittest

from samepictures.drawings import is_drawing
from samepictures.errors import InvalidDrawing, InvalidText
from samepictures.texts import format_drawing, parse_drawing
from tests.making import make_drawing
from tests.samples import FILL, Q, RUB, SQUARE, T, TRIANGLE, WRONG, fill_of, group, shape_of

T_TEXT = "fill odd(0,0;2,0;0,2) 1.0.0 1/2"
RUB_TEXT = "rub odd(0,0;2,0;0,2) 1/3"

PAIRS = [
    ((), ""),
    (T, T_TEXT),
    (Q, "fill odd(0,0;2,0;2,2;0,2) 1.0.0 1/2"),
    ((RUB,), RUB_TEXT),
    ((FILL, RUB), T_TEXT + " & " + RUB_TEXT),
    ((FILL, RUB, FILL, RUB), " & ".join([T_TEXT, RUB_TEXT, T_TEXT, RUB_TEXT])),
    ((group(()),), "group 1.0.0.1.0.0 1/1 - []"),
    ((group((), clip=SQUARE),), "group 1.0.0.1.0.0 1/1 odd(0,0;2,0;2,2;0,2) []"),
    ((group(T, (2, 4), None, (-2, 1, 0, -1, -9, 9)),), "group -2.1.0.-1.-9.9 2/4 - [" + T_TEXT + "]"),
    ((group((FILL, RUB), (6, 6), TRIANGLE),),
     "group 1.0.0.1.0.0 6/6 odd(0,0;2,0;0,2) [" + T_TEXT + " & " + RUB_TEXT + "]"),
    ((group((group(T), RUB)), FILL),
     "group 1.0.0.1.0.0 1/1 - [group 1.0.0.1.0.0 1/1 - [" + T_TEXT + "] & " + RUB_TEXT + "] & " + T_TEXT),
    ((group(()), group((group(()),))), "group 1.0.0.1.0.0 1/1 - [] & group 1.0.0.1.0.0 1/1 - [group 1.0.0.1.0.0 1/1 - []]"),
    ((("fill", ("turns", (((-9, 9), (9, -9), (0, 0)), ((1, 2), (3, 4), (5, 6), (7, 8)))), (9, 0, 5), (3, 6)),),
     "fill turns(-9,9;9,-9;0,0|1,2;3,4;5,6;7,8) 9.0.5 3/6"),
    ((("rub", ("turns", (((0, 0), (0, 0), (0, 0)),) * 3), (1, 1)),),
     "rub turns(0,0;0,0;0,0|0,0;0,0;0,0|0,0;0,0;0,0) 1/1"),
]


class FormatTest(unittest.TestCase):
    def test_texts(self):
        for drawing, text in PAIRS:
            self.assertEqual(format_drawing(drawing), text)

    def test_wrong_drawings(self):
        for value in [*WRONG, FILL, SQUARE, (FILL,) * 5, (fill_of(8, 8, 5),) * 3, T_TEXT, list(T)]:
            with self.assertRaises(InvalidDrawing):
                format_drawing(value)


class ParseTest(unittest.TestCase):
    def refuse(self, text):
        """Check that the value is not taken as a text."""
        with self.subTest(text=text if len(repr(text)) < 200 else repr(text)[:200]):
            with self.assertRaises(InvalidText):
                parse_drawing(text)

    def test_texts(self):
        for drawing, text in PAIRS:
            self.assertEqual(parse_drawing(text), drawing)

    def test_inverse(self):
        chance = random.Random(5)
        for _ in range(300):
            drawing = make_drawing(chance)
            self.assertTrue(is_drawing(drawing))
            text = format_drawing(drawing)
            self.assertEqual(parse_drawing(text), drawing)
            self.assertEqual(format_drawing(parse_drawing(text)), text)

    def test_largest_drawings(self):
        far = ("turns", (((-9, -9),) * 3,))
        leaf = ("fill", far, (9, 9, 9), (6, 6))
        matrix = (-2, -1, -1, -2, -9, -9)
        empty = group((), (6, 6), None, matrix)
        full = group((leaf, leaf, leaf, leaf), (6, 6), None, matrix)
        big = group((full, full, empty, empty), (6, 6), None, matrix)
        drawing = (big, big, group((full, empty, empty, empty), (6, 6), None, matrix), group((empty,) * 4))
        self.assertEqual(parse_drawing(format_drawing(drawing)), drawing)
        sixty = (fill_of(8, 8, 4),) * 3
        self.assertEqual(parse_drawing(format_drawing(sixty)), sixty)

    def test_values_of_wrong_kinds(self):
        for value in [*WRONG, (), T, FILL, b"", T_TEXT.encode(), [T_TEXT], (T_TEXT,), list(T_TEXT)]:
            # The empty string is the text of the empty drawing.
            if value != "":
                self.refuse(value)

    def test_a_sign_left_out(self):
        for drawing, text in PAIRS:
            for k in range(len(text)):
                self.check_changed(text, text[:k] + text[k + 1:])

    def test_a_sign_doubled(self):
        for drawing, text in PAIRS:
            for k in range(len(text)):
                self.check_changed(text, text[:k] + text[k] + text[k:])

    def test_a_sign_put_in(self):
        for drawing, text in PAIRS:
            for k in range(len(text) + 1):
                for sign in " ,;|()[]&./-+0179\n\t_x":
                    self.check_changed(text, text[:k] + sign + text[k:])

    def test_signs_put_for_others(self):
        for drawing, text in PAIRS[:11]:
            for k in range(len(text)):
                for sign in " ,;|()[]&./-+09a":
                    self.check_changed(text, text[:k] + sign + text[k + 1:])

    def check_changed(self, text, changed):
        """Check that a changed text is refused, unless it is, to the letter, that of another drawing."""
        try:
            drawing = parse_drawing(changed)
        except InvalidText:
            return
        self.assertTrue(is_drawing(drawing), changed)
        self.assertEqual(format_drawing(drawing), changed)

    def test_spaces(self):
        for drawing, text in PAIRS[1:]:
            self.refuse(" " + text)
            self.refuse(text + " ")
            self.refuse(text + "\n")
            self.refuse("\n" + text)
            for k in range(len(text)):
                if text[k] == " ":
                    self.refuse(text[:k] + " " + text[k:])
                    self.refuse(text[:k] + text[k + 1:])
                    for sign in "\t\n\r\x0b\x0c\x1c\x85\xa0\u2003\u3000":
                        self.refuse(text[:k] + sign + text[k + 1:])
        for text in (" ", "  ", "\n", "&", " & ", " &", "& ", " &  & ", T_TEXT + " & ", " & " + T_TEXT):
            self.refuse(text)
        self.refuse("group 1.0.0.1.0.0 1/1 - [ ]")
        self.refuse("group 1.0.0.1.0.0 1/1 - [" + T_TEXT + " ]")
        self.refuse("group 1.0.0.1.0.0 1/1 - [ " + T_TEXT + "]")
        self.refuse("group 1.0.0.1.0.0 1/1 - [] & ")
        self.refuse("group 1.0.0.1.0.0 1/1  []")

    def test_numbers_written_otherwise(self):
        for number in ("+1", "01", "-0", "-01", "1.0", "1e0", "0x1", "1_0", "--1", "- 1", "", "-", "+", "one", "00",
                       "\u0661", "\uff11", "\u00b2", "\u2460", "-\uff11", "\u22121", "\u0967", "1 ", " 1", "1\n"):
            self.refuse(f"fill odd({number},0;2,0;0,2) 1.0.0 1/2")
            self.refuse(f"fill odd(0,{number};2,0;0,2) 1.0.0 1/2")
            self.refuse(f"fill odd(0,0;2,0;0,{number}) 1.0.0 1/2")
            self.refuse(f"fill odd(0,0;2,0;0,2) {number}.0.0 1/2")
            self.refuse(f"fill odd(0,0;2,0;0,2) 1.0.{number} 1/2")
            self.refuse(f"fill odd(0,0;2,0;0,2) 1.0.0 {number}/2")
            self.refuse(f"fill odd(0,0;2,0;0,2) 1.0.0 1/{number}")
            self.refuse(f"group {number}.0.0.1.0.0 1/1 - []")
            self.refuse(f"group 1.0.0.1.0.{number} 1/1 - []")
            self.refuse(f"group 1.0.0.1.0.0 1/{number} - []")

    def test_numbers_beyond_the_bounds(self):
        for text in (
            "fill odd(10,0;2,0;0,2) 1.0.0 1/2", "fill odd(0,-10;2,0;0,2) 1.0.0 1/2", "fill odd(0,0;2,0;0,2) 10.0.0 1/2",
            "fill odd(0,0;2,0;0,2) -1.0.0 1/2", "fill odd(0,0;2,0;0,2) 1.0.0 0/2", "fill odd(0,0;2,0;0,2) 1.0.0 2/1",
            "fill odd(0,0;2,0;0,2) 1.0.0 1/7", "fill odd(0,0;2,0;0,2) 1.0.0 -1/2", "rub odd(0,0;2,0;0,2) 7/7",
            "group 3.0.0.1.0.0 1/1 - []", "group 1.0.0.1.10.0 1/1 - []", "group 1.0.0.-3.0.0 1/1 - []",
            "group 1.1.1.1.0.0 1/1 - []", "group 1.0.0.1.0.0 0/1 - []", "group 1.0.0.1.0.0 6/5 - []",
        ):
            self.refuse(text)

    def test_other_counts(self):
        for text in (
            "fill odd(0,0;2,0) 1.0.0 1/2", "fill odd(0,0) 1.0.0 1/2", "fill odd() 1.0.0 1/2", "fill odd 1.0.0 1/2",
            "fill odd(0,0,0;2,0;0,2) 1.0.0 1/2", "fill odd(0;2,0;0,2) 1.0.0 1/2", "fill odd(0,0;2,0;0,2|) 1.0.0 1/2",
            "fill odd(0,0;2,0;0,2) 1.0 1/2", "fill odd(0,0;2,0;0,2) 1.0.0.0 1/2", "fill odd(0,0;2,0;0,2) 1.0.0 1/2/3",
            "fill odd(0,0;2,0;0,2) 1.0.0 1", "fill odd(0,0;2,0;0,2) 1.0.0", "fill odd(0,0;2,0;0,2)", "fill", "rub", "group",
            "fill odd(0,0;2,0;0,2) 1.0.0 1/2 1/2", "rub odd(0,0;2,0;0,2) 1.0.0 1/2", "rub odd(0,0;2,0;0,2)",
            "group 1.0.0.1.0 1/1 - []", "group 1.0.0.1.0.0.0 1/1 - []", "group 1.0.0.1.0.0 1/1 []", "group 1.0.0.1.0.0 - []",
            "group 1.0.0.1.0.0 1/1 -", "group 1.0.0.1.0.0 1/1 - [", "group 1.0.0.1.0.0 1/1 - ]", "group 1.0.0.1.0.0 1/1 - ][",
            "group 1.0.0.1.0.0 1/1 - [] []", "group 1.0.0.1.0.0 1/1 - [][]", "group 1.0.0.1.0.0 1/1 - [[]]",
            "group 1.0.0.1.0.0 1/1 -- []", "group 1.0.0.1.0.0 1/1 None []",
            "fill even(0,0;2,0;0,2) 1.0.0 1/2", "fill (0,0;2,0;0,2) 1.0.0 1/2", "Fill odd(0,0;2,0;0,2) 1.0.0 1/2",
            "fill odd(0,0;2,0;0,2)) 1.0.0 1/2", "fill odd((0,0;2,0;0,2) 1.0.0 1/2", "fill odd[0,0;2,0;0,2] 1.0.0 1/2",
        ):
            self.refuse(text)
        nine = ";".join(["0,0"] * 9)
        self.refuse(f"fill odd({nine}) 1.0.0 1/2")
        four = "|".join(["0,0;1,0;0,1"] * 4)
        self.refuse(f"fill odd({four}) 1.0.0 1/2")

    def test_brackets_that_cross(self):
        head = "group 1.0.0.1.0.0 1/1 - "
        self.refuse(head + "[" + T_TEXT + "]] & [[" + T_TEXT + "]")
        self.refuse(head + "[" + T_TEXT + "] & [" + T_TEXT + "]")
        self.refuse("]" + T_TEXT + "[")
        self.refuse("[" + T_TEXT + "]")
        self.refuse(T_TEXT + "] & [" + T_TEXT)

    def test_too_many(self):
        self.assertEqual(len(parse_drawing(" & ".join([T_TEXT] * 4))), 4)
        self.refuse(" & ".join([T_TEXT] * 5))
        self.refuse("group 1.0.0.1.0.0 1/1 - [" + " & ".join([T_TEXT] * 5) + "]")
        big = format_drawing((fill_of(8, 8, 4),))
        clip = "group 1.0.0.1.0.0 1/1 odd(0,0;1,0;0,1) []"
        self.assertEqual(len(parse_drawing(" & ".join([big] * 3))), 3)
        self.refuse(" & ".join([big] * 3 + [RUB_TEXT]))
        self.refuse(" & ".join([big] * 3 + [clip]))

    def test_depth(self):
        head = "group 1.0.0.1.0.0 1/1 - ["
        self.assertEqual(parse_drawing(head * 2 + "]" * 2), (group((group(()),)),))
        for depth in (3, 4, 10, 300, 5000, 100000):
            self.refuse(head * depth + "]" * depth)
            self.refuse(head * depth + T_TEXT + "]" * depth)
            self.refuse(head * depth)
            self.refuse("[" * depth)
            self.refuse("]" * depth)
            self.refuse("[" * depth + "]" * depth)
            self.refuse("]" * depth + "[" * depth)
            self.refuse("(" * depth)
            self.refuse(head + "[" * depth + "]" * depth + "]")

    def test_long_texts(self):
        for many in (1000, 5000, 9000, 1000000):
            for sign in ("1", "9", "0", "-", "-1", " ", ",", ";", "|", "&", " & ", "fill ", "(", "x", "\u0661"):
                long = sign * many
                self.refuse(long)
                self.refuse(f"fill odd({long},0;2,0;0,2) 1.0.0 1/2")
                self.refuse(f"fill odd(0,0;2,0;0,2{long}) 1.0.0 1/2")
                self.refuse(f"fill odd(0,0;2,0;0,2) {long}.0.0 1/2")
                self.refuse(f"fill odd(0,0;2,0;0,2) 1.0.0 {long}/2")
                self.refuse(f"group 1.0.0.{long}.0.0 1/1 - []")
                self.refuse(f"group 1.0.0.1.0.0 1/1 - [{long}]")
                self.refuse(T_TEXT + long)
            points = ";".join(["1,1"] * many)
            self.refuse(f"rub odd({points}) 1/2")
            self.refuse(" & ".join([T_TEXT] * (many // 10)))


class ClipTextTest(unittest.TestCase):
    def test_clips_of_several_loops(self):
        drawing = (group((group((RUB,), (1, 6), shape_of(3, 4, 5)),), (2, 2), shape_of(8, 8)),)
        text = format_drawing(drawing)
        self.assertEqual(text.count("|"), 3)
        self.assertEqual(parse_drawing(text), drawing)


if __name__ == "__main__":
    unittest.main()
