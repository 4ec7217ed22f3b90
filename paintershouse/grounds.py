"""Grounds: the regions to which rows of any deeds keep."""

from paintershouse.footprints import back_from, touched_by
from paintershouse.forms import check_doable
from paintershouse.regions import check_within, less, region_of


def ground(sides, deeds):
    """Returns the least region to which a row keeps."""
    check_doable(sides, deeds)
    points = []
    for deed in deeds:
        there = touched_by(sides, deed)
        points.extend(there)
        points.extend(list(back_from(sides, (deed,), there)))
    return region_of(points)


def keeps_to(sides, deeds, region):
    """Returns True if a row keeps to a region, otherwise False."""
    needed = ground(sides, deeds)
    check_within(sides, region)
    return less(needed, region) == ()
