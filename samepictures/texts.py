"""Drawings written as texts, and texts read as drawings."""

from samepictures.drawings import DEEPEST, check_drawing, is_drawing
from samepictures.errors import InvalidText

BETWEEN_LAYERS = " & "
DIGITS = "0123456789"
LONGEST = 10000


def join_numbers(numbers, sign):
    """Return the numbers with the sign between them."""
    return sign.join([str(number) for number in numbers])


def format_loop(loop):
    """Return the text of a loop."""
    return ";".join([join_numbers(pair, ",") for pair in loop])


def format_shape(shape):
    """Return the text of a shape."""
    rule, loops = shape
    inner = "|".join([format_loop(loop) for loop in loops])
    return f"{rule}({inner})"


def format_group(group):
    """Return the text of a group."""
    _, layers, opacity, clip, matrix = group
    clip_text = "-" if clip is None else format_shape(clip)
    inner = format_layers(layers)
    return " ".join(["group", join_numbers(matrix, "."), join_numbers(opacity, "/"), clip_text, f"[{inner}]"])


def format_layer(layer):
    """Return the text of a layer."""
    if layer[0] == "group":
        return format_group(layer)
    words = [layer[0], format_shape(layer[1])]
    if layer[0] == "fill":
        words.append(join_numbers(layer[2], "."))
    words.append(join_numbers(layer[-1], "/"))
    return " ".join(words)


def format_layers(layers):
    """Return the text of layers, of a drawing or of a group."""
    return BETWEEN_LAYERS.join([format_layer(layer) for layer in layers])


def format_drawing(drawing):
    """Return the text of the drawing."""
    check_drawing(drawing)
    return format_layers(drawing)


def split_words(text, many):
    """Return so many words of the text; the last one is all that is left of it."""
    words = text.split(" ", many - 1)
    if len(words) != many:
        raise InvalidText("a layer has too few words")
    return words


def read_number(word):
    """Return the number that the word tells.

    No number of a drawing has more than one digit, so that no long word is ever turned into a number.
    """
    digit = word.removeprefix("-")
    if len(digit) != 1 or digit not in DIGITS or word == "-0":
        raise InvalidText("a number is not written as the texts of drawings have it")
    return int(word)


def read_numbers(text, sign):
    """Return the tuple of the numbers with the sign between them."""
    return tuple([read_number(word) for word in text.split(sign)])


def read_loop(text):
    """Return the loop with this text."""
    return tuple([read_numbers(pair, ",") for pair in text.split(";")])


def read_shape(text):
    """Return the shape with this text."""
    rule, _, rest = text.partition("(")
    if not rest.endswith(")"):
        raise InvalidText("a shape has no parentheses")
    return (rule, tuple([read_loop(part) for part in rest[:-1].split("|")]))


def read_fill(text):
    """Return the fill with this text behind its first word."""
    shape, colour, opacity = split_words(text, 3)
    return ("fill", read_shape(shape), read_numbers(colour, "."), read_numbers(opacity, "/"))


def read_rub(text):
    """Return the rub with this text behind its first word."""
    shape, opacity = split_words(text, 2)
    return ("rub", read_shape(shape), read_numbers(opacity, "/"))


def read_group(text, deepest):
    """Return the group with this text behind its first word; groups, it included, lie at most that deep."""
    if deepest == 0:
        raise InvalidText("groups are nested too deep")
    matrix, opacity, clip, inner = split_words(text, 4)
    if not inner.startswith("[") or not inner.endswith("]"):
        raise InvalidText("the layers of a group have no brackets")
    layers = read_layers(inner[1:-1], deepest - 1)
    clip_shape = None if clip == "-" else read_shape(clip)
    return ("group", layers, read_numbers(opacity, "/"), clip_shape, read_numbers(matrix, "."))


def read_layer(text, deepest):
    """Return the layer with this text, with groups at most that deep."""
    kind, _, rest = text.partition(" ")
    if kind == "fill":
        return read_fill(rest)
    if kind == "rub":
        return read_rub(rest)
    if kind == "group":
        return read_group(rest, deepest)
    raise InvalidText("a layer begins with another word")


def split_layers(text):
    """Return the list of the texts of the layers: the text is parted outside of all brackets."""
    layers = []
    held = []
    depth = 0
    for part in text.split(BETWEEN_LAYERS):
        held.append(part)
        depth = depth + part.count("[") - part.count("]")
        if depth == 0:
            layers.append(BETWEEN_LAYERS.join(held))
            held = []
    if held:
        raise InvalidText("the brackets do not belong together in pairs")
    return layers


def read_layers(text, deepest):
    """Return the tuple of the layers with this text, with groups at most that deep."""
    if text == "":
        return ()
    return tuple([read_layer(part, deepest) for part in split_layers(text)])


def parse_drawing(text):
    """Return the drawing with this text."""
    if not isinstance(text, str):
        raise InvalidText("this is not a string")
    # A drawing has at most 20 groups and 20 shapes, so that its text stays far below this length.
    if len(text) > LONGEST:
        raise InvalidText("the text is longer than that of any drawing")
    drawing = read_layers(text, DEEPEST)
    if not is_drawing(drawing):
        raise InvalidText("this text goes beyond the bounds of a drawing")
    return drawing
