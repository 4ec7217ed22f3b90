"""The texts of pixels and of pictures."""

from paintershouse.errors import BadForm
from paintershouse.pictures import MAX_SIDE
from paintershouse.pixels import is_pixel

MAX_TEXT = 4000
DIGITS = "0123456789abcdef"


def pixel_text(pixel):
    """Returns the text of a pixel."""
    return "".join([DIGITS[level] for level in pixel])


def picture_text(picture):
    """Returns the text of a picture."""
    return "".join([row_text(row) + "\n" for row in picture])


def row_text(row):
    """Returns the texts of the pixels of a row, with single spaces between."""
    return " ".join([pixel_text(pixel) for pixel in row])


def read_pixel(text):
    """Returns the pixel of a text."""
    pixel = _pixel_or_none(text)
    if pixel is None:
        raise BadForm(1)
    return pixel


def _pixel_or_none(text):
    # A sign that is no digit becomes -1, which is no level.
    levels = tuple([DIGITS.find(sign) for sign in text])
    if is_pixel(levels):
        return levels
    return None


def read_picture(text):
    """Returns the picture of a text."""
    if len(text) > MAX_TEXT:
        raise BadForm(0)
    lines = text.split("\n")
    rows = []
    for line in lines[:-1]:
        row = _row_or_none(line)
        if row is None or not _can_follow(rows, row):
            raise BadForm(len(rows) + 1)
        rows.append(row)
    if not rows or lines[-1] != "":
        raise BadForm(len(rows) + 1)
    return tuple(rows)


def _row_or_none(line):
    pixels = [_pixel_or_none(word) for word in line.split(" ")]
    if None in pixels or len(pixels) > MAX_SIDE:
        return None
    return tuple(pixels)


def _can_follow(rows, row):
    if not rows:
        return True
    return len(rows) < MAX_SIDE and len(row) == len(rows[0])
