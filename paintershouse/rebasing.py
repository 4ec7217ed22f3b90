"""Deeds that are carried over movers: done behind them instead of ahead."""

from paintershouse.deeds import POINTWISE, pointwise_region
from paintershouse.errors import NotAllowed
from paintershouse.forms import check_doable
from paintershouse.regions import is_within, points_in, region_of

MOVERS = ("flip", "fall", "turn", "move")


def _check_deeds(sides, deeds, words):
    """Raises NotAllowed if deeds are no row that can be done, or one has another word."""
    check_doable(sides, deeds)
    for deed in deeds:
        if deed[0] not in words:
            raise NotAllowed("a deed of another kind")


def carried_over(sides, deed, mover):
    """Returns the deed that does behind a mover what a pointwise deed does ahead of it."""
    _check_deeds(sides, (deed,), POINTWISE)
    _check_deeds(sides, (mover,), MOVERS)
    return _carried(sides, deed, mover)


def rebased(sides, deeds, movers):
    """Returns the row of pointwise deeds that are carried over each of a row of movers."""
    _check_deeds(sides, deeds, POINTWISE)
    _check_deeds(sides, movers, MOVERS)
    for mover in movers:
        deeds = tuple([_carried(sides, deed, mover) for deed in deeds])
    return deeds


def _carried(sides, deed, mover):
    """Returns a pointwise deed, carried over a mover."""
    points = [point for point in points_in(pointwise_region(deed)) if is_within(sides, point)]
    there = [_moved_point(sides, mover, point) for point in points]
    region = region_of([point for point in there if is_within(sides, point)])
    if deed[0] == "stroke":
        return ("fill", region) + deed[3:]
    return (deed[0], region) + deed[2:]


def _moved_point(sides, mover, point):
    """Returns the point to which a mover takes a point."""
    x, y = point
    if mover[0] == "flip":
        return (sides[0] - 1 - x, y)
    if mover[0] == "fall":
        return (x, sides[1] - 1 - y)
    if mover[0] == "turn":
        return (sides[1] - 1 - y, x)
    return (x + mover[1], y + mover[2])
