"""Footprints: from which points a row of deeds takes what it makes, and which points it touches."""

from paintershouse.deeds import CARRIERS, NEIGHBOURS, SEEKERS, pointwise_region
from paintershouse.errors import NotAllowed
from paintershouse.forms import check_doable, copied_from, sources_of
from paintershouse.pictures import points_of
from paintershouse.regions import is_within, points_in, region_of


def touched_by(sides, deed):
    """Returns the list of the points that a deed touches."""
    wide, high = sides
    word = deed[0]
    if word in SEEKERS:
        return points_of(wide, high) if is_within(sides, deed[1]) else []
    if word == "copy":
        return list(copied_from(sides, deed))
    if word in CARRIERS:
        return [] if deed == ("move", 0, 0) else points_of(wide, high)
    return [point for point in points_in(pointwise_region(deed)) if is_within(sides, point)]


def _steps_back(sides, deed):
    """Returns a dict of the lists of the points in the footprint of a deed that finds no region, for all points."""
    wide, high = sides
    points = points_of(wide, high)
    if deed[0] in CARRIERS:
        sources = sources_of(sides, deed)
        return {point: [sources[point]] if point in sources else [] for point in points}
    steps = {point: [point] for point in points}
    if deed[0] in NEIGHBOURS:
        for point in touched_by(sides, deed):
            steps[point] = _box(sides, point, deed[2])
    return steps


def _box(sides, point, reach):
    """Returns the list of the points of a box that are within sides."""
    x, y = point
    rows = range(max(0, y - reach), min(sides[1], y + reach + 1))
    columns = range(max(0, x - reach), min(sides[0], x + reach + 1))
    return [(i, j) for j in rows for i in columns]


def back_from(sides, deeds, points):
    """Returns a dict of all points to which one comes from some points, from the last deed back."""
    there = {point: True for point in points}
    for deed in reversed(deeds):
        if deed[0] in SEEKERS and there and is_within(sides, deed[1]):
            there = {point: True for point in points_of(sides[0], sides[1])}
            continue
        steps = _steps_back(sides, deed)
        ahead = {}
        for point in there:
            for source in steps[point]:
                ahead[source] = True
        there = ahead
    return there


def footprint(sides, deeds, point):
    """Returns the footprint of a row of any deeds at a point."""
    check_doable(sides, deeds)
    if not is_within(sides, point):
        raise NotAllowed("not a point within the sides")
    return region_of(list(back_from(sides, deeds, [point])))


def touched(sides, deeds):
    """Returns the region of the points that a row touches."""
    check_doable(sides, deeds)
    return region_of([point for deed in deeds for point in touched_by(sides, deed)])


def are_apart(sides, first, second):
    """Returns True if two rows are apart, otherwise False."""
    one, other = points_in(touched(sides, first)), points_in(touched(sides, second))
    return not _meet(sides, first, one, other) and not _meet(sides, second, other, one)


def _meet(sides, deeds, points, others):
    """Tells whether a row that touches some points touches others, or takes something from them."""
    taken = back_from(sides, deeds, points)
    also = set(points)
    return any([point in also or point in taken for point in others])
