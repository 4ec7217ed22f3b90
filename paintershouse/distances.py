"""Distances of points from regions, and the gap of two regions."""

from paintershouse.errors import Missing, NotAllowed
from paintershouse.pictures import points_of
from paintershouse.regions import check_region, check_within, points_in, region_of

DISTANCES = ("rook", "king", "square")


def _check_kind(kind):
    if kind not in DISTANCES:
        raise NotAllowed("no kind of distance")


def _distance(first, second, kind):
    dx, dy = abs(first[0] - second[0]), abs(first[1] - second[1])
    if kind == "rook":
        return dx + dy
    if kind == "king":
        return max(dx, dy)
    return dx * dx + dy * dy


def _from_nearest(point, points, kind):
    """Returns the distance of a point from the nearest one of a list, or -1 if that is empty."""
    return min([_distance(point, other, kind) for other in points], default=-1)


def field(sides, region, kind):
    """Returns the rows of the distances of all points within sides from a region."""
    check_within(sides, region)
    _check_kind(kind)
    wide, high = sides
    points = points_in(region)
    return tuple([tuple([_from_nearest((x, y), points, kind) for x in range(wide)]) for y in range(high)])


def within(sides, region, kind, most):
    """Returns the region of the points whose distance from a region is at most so great."""
    rows = field(sides, region, kind)
    wide, high = sides
    # The -1 of a region without points is no distance.
    return region_of([(x, y) for x, y in points_of(wide, high) if 0 <= rows[y][x] <= most])


def gap(first, second, kind):
    """Returns the greatest distance of a point of one region from the other region."""
    check_region(first)
    check_region(second)
    _check_kind(kind)
    if not first or not second:
        raise Missing("a region without points")
    one, other = points_in(first), points_in(second)
    return max(_farthest(one, other, kind), _farthest(other, one, kind))


def _farthest(points, others, kind):
    return max([_from_nearest(point, others, kind) for point in points])
