"""Heights as strings with one character for each."""

from throwskept.errors import BadText

SIGNS = "0123456789abcdefghijklmnopqrstuvwxyz"


def write_heights(heights):
    """Return the string for heights up to 35; a greater one, which has no character, is written as ?."""
    return "".join([SIGNS[height] if height < len(SIGNS) else "?" for height in heights])


def read_heights(text):
    """Return the heights of the string."""
    if text == "":
        raise BadText("there are no heights")
    heights = []
    for sign in text:
        height = SIGNS.find(sign)
        if height < 0:
            raise BadText("a character is neither a digit nor one of the letters a to z")
        heights.append(height)
    return tuple(heights)
