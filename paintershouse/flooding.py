"""What is flooded in a picture from a point."""

from paintershouse.errors import NotAllowed
from paintershouse.parts import check_ways, reached
from paintershouse.pictures import points_of, size_of
from paintershouse.pixels import check_level
from paintershouse.regions import is_within, region_of


def step_between(first, second):
    """Returns the greatest difference of the levels of two pixels."""
    return max([abs(one - other) for one, other in zip(first, second)])


def flooded(picture, point, tolerance, ways):
    """Returns the region that is flooded from a point, at a tolerance."""
    if not is_within(size_of(picture), point):
        raise NotAllowed("not a point of the picture")
    check_level(tolerance)
    check_ways(ways)
    x, y = point
    alike = _points_alike(picture, picture[y][x], tolerance)
    return region_of(list(reached(alike, point, ways)))


def _points_alike(picture, pixel, tolerance):
    """Returns a dict of the points whose step from a pixel is at most a tolerance."""
    wide, high = size_of(picture)
    return {(x, y): True for x, y in points_of(wide, high) if step_between(pixel, picture[y][x]) <= tolerance}
