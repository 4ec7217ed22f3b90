"""Regions that are grown and shrunk by stencils."""

from paintershouse.errors import NotAllowed
from paintershouse.pictures import points_of
from paintershouse.regions import check_within, is_within, others, points_in, region_of

MAX_REACH = 4


def check_stencil(stencil):
    """Raises NotAllowed if a tuple of pairs of integers is not a stencil."""
    for dx, dy in stencil:
        if not -MAX_REACH <= dx <= MAX_REACH or not -MAX_REACH <= dy <= MAX_REACH:
            raise NotAllowed("a stencil that reaches too far")
    for k in range(1, len(stencil)):
        if not stencil[k - 1] < stencil[k]:
            raise NotAllowed("a stencil that does not ascend")


def grown(sides, region, stencil):
    """Returns a region, grown by a stencil."""
    check_within(sides, region)
    check_stencil(stencil)
    points = [(x + dx, y + dy) for x, y in points_in(region) for dx, dy in stencil]
    return region_of([point for point in points if is_within(sides, point)])


def shrunk(sides, region, stencil):
    """Returns a region, shrunk by a stencil."""
    check_within(sides, region)
    check_stencil(stencil)
    wide, high = sides
    # Outside of the sides nothing is wanted, so only points within them can be lacking.
    lacking = {point: True for point in points_in(others(sides, region))}
    kept = []
    for x, y in points_of(wide, high):
        if not any([(x + dx, y + dy) in lacking for dx, dy in stencil]):
            kept.append((x, y))
    return region_of(kept)


def opened(sides, region, stencil):
    """Returns a region, shrunk by a stencil and then grown."""
    return grown(sides, shrunk(sides, region, stencil), stencil)


def closed(sides, region, stencil):
    """Returns a region, grown by a stencil and then shrunk."""
    return shrunk(sides, grown(sides, region, stencil), stencil)
