"""Paths, lines, brushes, and the regions of strokes."""

from paintershouse.errors import NotAllowed
from paintershouse.pictures import MAX_SIDE
from paintershouse.regions import is_within, region_of

MAX_PATH = 20
MAX_REACH = 3
SHAPES = ("round", "square")


def is_path(path):
    """Tells whether a tuple of tuples of integers is a path."""
    if not 1 <= len(path) <= MAX_PATH:
        return False
    for point in path:
        if len(point) != 2:
            return False
        for part in point:
            if not -MAX_SIDE <= part <= 2 * MAX_SIDE:
                return False
    return True


def is_brush(brush):
    """Tells whether a pair of a text and an integer is a brush."""
    shape, reach = brush
    return shape in SHAPES and 0 <= reach <= MAX_REACH


def check_path(path):
    """Raises NotAllowed if a tuple of tuples of integers is not a path."""
    if not is_path(path):
        raise NotAllowed("not a path")


def check_brush(brush):
    """Raises NotAllowed if a pair of a text and an integer is not a brush."""
    if not is_brush(brush):
        raise NotAllowed("not a brush")


def line_points(first, last):
    """Returns the list of the points of the line from one point to another one."""
    x, y = first
    w, h = last[0] - x, last[1] - y
    n = max(abs(w), abs(h))
    if n == 0:
        return [(x, y)]
    return [(x + (2 * k * w + n) // (2 * n), y + (2 * k * h + n) // (2 * n)) for k in range(n + 1)]


def stroke_region(path, brush):
    """Returns the region of a stroke."""
    check_path(path)
    check_brush(brush)
    # A path of one point has no lines, but is covered there, too.
    points = [path[0]]
    for k in range(1, len(path)):
        points.extend(line_points(path[k - 1], path[k]))
    offsets = _covered_offsets(brush)
    covered = [(x + dx, y + dy) for x, y in points for dx, dy in offsets]
    return region_of([point for point in covered if is_within((MAX_SIDE, MAX_SIDE), point)])


def _covered_offsets(brush):
    """Returns the list of the differences from a point that a brush covers there."""
    shape, reach = brush
    steps = range(-reach, reach + 1)
    square = [(dx, dy) for dx in steps for dy in steps]
    if shape == "square":
        return square
    return [(dx, dy) for dx, dy in square if dx * dx + dy * dy <= reach * reach]
