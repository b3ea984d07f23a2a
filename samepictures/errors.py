"""The exceptions of the program."""


class PictureError(ValueError):
    """The base of all exceptions of the program."""


class InvalidNumber(PictureError):
    """An argument is not the number, or not the value, that is asked for."""


class InvalidPoint(PictureError):
    """An argument is not a point."""


class InvalidShape(PictureError):
    """An argument is not a shape."""


class InvalidLayer(PictureError):
    """An argument is not a layer."""


class InvalidDrawing(PictureError):
    """An argument is not a drawing."""


class InvalidRegion(PictureError):
    """An argument is not a region."""


class InvalidPlan(PictureError):
    """An argument is not a plan."""


class InvalidIndex(PictureError):
    """An argument is not the number of a layer that is asked for."""


class InvalidBox(PictureError):
    """An argument is not a box."""


class InvalidMove(PictureError):
    """An argument is not the number of a turn."""


class InvalidText(PictureError):
    """An argument is not the text of a drawing."""


class OnEdge(PictureError):
    """A point or a line meets an edge where it must not."""


class Blank(PictureError):
    """There is nothing where something is needed."""


class TooMany(PictureError):
    """A change would make something other than a drawing."""


class NothingToUndo(PictureError):
    """There is no change to revert or to perform again."""
