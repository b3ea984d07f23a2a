"""Desks, on which drawings are changed and changes are undone."""

from samepictures.drawings import check_drawing, is_drawing, is_layer
from samepictures.errors import InvalidIndex, InvalidLayer, NothingToUndo, TooMany
from samepictures.exact import is_whole
from samepictures.outlines import measure
from samepictures.surveys import unlike


def check_index(value, many):
    """Raise InvalidIndex if the value is not a number from 0 to below this one."""
    if not is_whole(value) or not 0 <= value < many:
        raise InvalidIndex("this is not the number of a layer that is asked for")


class Desk:
    """A drawing that is changed layer by layer.

    The drawing of now is in now. The changes that are not undone are in past, those that can be
    performed again in undone, the next one last; each is a pair of the drawing on its other side and
    the area in which the picture is changed.
    """

    def __init__(self, drawing):
        check_drawing(drawing)
        self.now = drawing
        self.past = []
        self.undone = []

    def __eq__(self, other):
        # The areas follow from the drawings, so that they are alike where these are.
        return isinstance(other, Desk) and self.now == other.now and self.past == other.past

    def __len__(self):
        return len(self.past)

    def drawing(self):
        """Return the drawing."""
        return self.now

    def put(self, index, layer):
        """Put the layer into the drawing, so that it has this number; return the area that is changed."""
        check_index(index, len(self.now) + 1)
        if not is_layer(layer):
            raise InvalidLayer("this is not a layer")
        changed = (*self.now[:index], layer, *self.now[index:])
        if not is_drawing(changed):
            raise TooMany("a drawing has no room for this layer")
        return self.change_to(changed)

    def take(self, index):
        """Take the layer with this number away; return the area that is changed."""
        check_index(index, len(self.now))
        return self.change_to(self.now[:index] + self.now[index + 1:])

    def exchange(self, index):
        """Exchange the layer with this number and the next one; return the area that is changed."""
        check_index(index, len(self.now) - 1)
        lower, upper = self.now[index:index + 2]
        return self.change_to((*self.now[:index], upper, lower, *self.now[index + 2:]))

    def change_to(self, drawing):
        """Perform a new change, to this drawing; return the area that is changed."""
        area = measure(unlike(self.now, drawing))
        self.past.append((self.now, area))
        self.undone = []
        self.now = drawing
        return area

    def undo(self):
        """Revert the last change; return the area that is changed."""
        if not self.past:
            raise NothingToUndo("there is no change to revert")
        drawing, area = self.past.pop()
        self.undone.append((self.now, area))
        self.now = drawing
        return area

    def redo(self):
        """Perform again the last change that was undone; return the area that is changed."""
        if not self.undone:
            raise NothingToUndo("there is no change to perform again")
        drawing, area = self.undone.pop()
        self.past.append((self.now, area))
        self.now = drawing
        return area
