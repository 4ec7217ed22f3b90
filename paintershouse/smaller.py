"""Pictures made smaller."""

from paintershouse.deeds import mean_pixel
from paintershouse.errors import NotAllowed
from paintershouse.pictures import size_of

MAX_SMALLER = 8


def mean_of(pixels):
    """Returns the mean of a list of pixels, of at least one."""
    return mean_pixel(pixels, len(pixels))


def smaller(picture, n):
    """Returns a picture made smaller by n."""
    if not 1 <= n <= MAX_SMALLER:
        raise NotAllowed("not a number to make a picture smaller by")
    wide, high = size_of(picture)
    rows = []
    for top in range(0, high, n):
        rows.append(tuple([mean_of(_block(picture, left, top, n)) for left in range(0, wide, n)]))
    return tuple(rows)


def _block(picture, left, top, n):
    """Returns the list of the pixels of a block of n by n, as far as the picture has it."""
    return [pixel for row in picture[top:top + n] for pixel in row[left:left + n]]
