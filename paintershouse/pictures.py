"""Pictures: their points, one above another one, flipped, turned and cut out."""

from paintershouse.errors import NotAllowed
from paintershouse.pixels import CLEAR, blended, check_level, check_mode, check_pixel

MAX_SIDE = 24


def check_size(wide, high):
    """Raises NotAllowed if two integers are not the sides of a picture."""
    if not 1 <= wide <= MAX_SIDE or not 1 <= high <= MAX_SIDE:
        raise NotAllowed("not the sides of a picture")


def check_picture(picture):
    """Raises NotAllowed if a tuple of tuples of tuples of integers is not a picture."""
    if not picture:
        raise NotAllowed("a picture without rows")
    wide, high = size_of(picture)
    check_size(wide, high)
    for row in picture:
        if len(row) != wide:
            raise NotAllowed("a row with another width")
        for pixel in row:
            check_pixel(pixel)


def size_of(picture):
    """Returns the width and the height of a picture."""
    return (len(picture[0]), len(picture))


def blank(wide, high):
    """Returns the picture of clear pixels with two sides."""
    check_size(wide, high)
    return ((CLEAR,) * wide,) * high


def pixel_at(picture, point):
    """Returns the pixel at a point, which may be outside."""
    x, y = point
    wide, high = size_of(picture)
    if 0 <= x < wide and 0 <= y < high:
        return picture[y][x]
    return CLEAR


def points_of(wide, high):
    """Returns the list of the points of a picture with two sides, in order."""
    return [(x, y) for y in range(high) for x in range(wide)]


def laid(mode, below, above, level):
    """Returns what is seen of a picture above another one."""
    check_mode(mode)
    check_level(level)
    _check_same_size(below, above)
    rows = []
    for row_below, row_above in zip(below, above):
        rows.append(tuple([blended(mode, low, top, level) for low, top in zip(row_below, row_above)]))
    return tuple(rows)


def _check_same_size(first, second):
    if size_of(first) != size_of(second):
        raise NotAllowed("pictures with other sides")


def cut_out(picture, left, top, wide, high):
    """Returns what is cut out of a picture from the point (left, top) on."""
    check_size(wide, high)
    rows = []
    for y in range(top, top + high):
        rows.append(tuple([pixel_at(picture, (x, y)) for x in range(left, left + wide)]))
    return tuple(rows)


def flipped(picture):
    """Returns a picture whose left and right are exchanged."""
    return tuple([row[::-1] for row in picture])


def turned(picture):
    """Returns a picture, turned by a quarter to the right."""
    wide, _ = size_of(picture)
    upwards = picture[::-1]
    return tuple([tuple([row[x] for row in upwards]) for x in range(wide)])


def differing(first, second):
    """Returns the list of the points at which two pictures differ, in order."""
    _check_same_size(first, second)
    wide, high = size_of(first)
    return [(x, y) for x, y in points_of(wide, high) if first[y][x] != second[y][x]]
