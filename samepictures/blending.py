"""Values, and how they are laid over one another and weakened.

An effect is a pair of a value that is laid over what lies below, and the fraction of what lies
below that is still seen then.
"""

from samepictures.exact import lowest, plus, rest_of, times

NOTHING = ((0, 1), (0, 1), (0, 1), (0, 1))
ALL = (1, 1)


def filled(colour, opacity):
    """Return the value of a fill."""
    top, bottom = opacity
    parts = [lowest(number * top, bottom) for number in colour]
    return (lowest(top, bottom), *parts)


def weakened(value, fraction):
    """Return the value with all its parts multiplied by the fraction."""
    return tuple([times(part, fraction) for part in value])


def laying(value):
    """Return the effect of laying the value over what lies below."""
    return (value, rest_of(value[0]))


def laid(effects):
    """Return the value that is seen where these effects, one after the other, come upon nothing."""
    seen = NOTHING
    for value, rest in effects:
        seen = tuple([plus(one, other) for one, other in zip(value, weakened(seen, rest))])
    return seen
