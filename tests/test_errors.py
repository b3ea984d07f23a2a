"""The exceptions: section 3 and the interface."""

import unittest

from samepictures import errors

NAMES = [
    "InvalidNumber", "InvalidPoint", "InvalidShape", "InvalidLayer", "InvalidDrawing", "InvalidRegion",
    "InvalidPlan", "InvalidIndex", "InvalidBox", "InvalidMove", "InvalidText", "OnEdge", "Blank", "TooMany",
    "NothingToUndo",
]


class ErrorsTest(unittest.TestCase):
    def test_base(self):
        self.assertEqual(errors.PictureError.__bases__, (ValueError,))

    def test_all_are_direct_subclasses(self):
        self.assertEqual(len(NAMES), 15)
        for name in NAMES:
            self.assertEqual(getattr(errors, name).__bases__, (errors.PictureError,), name)

    def test_there_are_no_others(self):
        found = [name for name in vars(errors) if not name.startswith("_")]
        self.assertEqual(sorted(found), sorted([*NAMES, "PictureError"]))

    def test_none_is_another_one(self):
        for name in NAMES:
            error = getattr(errors, name)("why")
            self.assertIsInstance(error, ValueError)
            self.assertIsInstance(error, errors.PictureError)
            kinds = [other for other in NAMES if isinstance(error, getattr(errors, other))]
            self.assertEqual(kinds, [name])


if __name__ == "__main__":
    unittest.main()
