"""Values, and how they are laid over one another and weakened."""

from samepictures.exact import lowest, plus, rest_of, times

NOTHING = ((0, 1), (0, 1), (0, 1), (0, 1))


def filled(colour, opacity):
    """Return the value of a fill."""
    top, bottom = opacity
    parts = [lowest(number * top, bottom) for number in colour]
    return (lowest(top, bottom), *parts)


def weakened(value, fraction):
    """Return the value with all its parts multiplied by the fraction."""
    return tuple([times(part, fraction) for part in value])


def laid_over(upper, lower):
    """Return what is seen if the upper value is laid over the lower one."""
    through = weakened(lower, rest_of(upper[0]))
    return tuple([plus(one, other) for one, other in zip(upper, through)])
