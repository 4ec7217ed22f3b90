"""Tiles of documents, and the tiles in views."""

from paintershouse.errors import NotAllowed, TooLarge
from paintershouse.pictures import MAX_SIDE, check_size
from paintershouse.shelf import MAX_ASKS, MAX_PIECE


def check_side(side):
    """Raises NotAllowed if an integer is not a side of tiles."""
    if not 1 <= side <= MAX_SIDE:
        raise NotAllowed("not a side of tiles")


def check_view(view):
    """Raises NotAllowed if a tuple of four integers is not a view."""
    _, _, wide, high = view
    check_size(wide, high)


def _many_across(long, side):
    """Returns the number of tiles side by side along so many points."""
    return (long + side - 1) // side


def tiles_of(wide, high, side):
    """Returns the list of the tiles of a side, in order."""
    check_size(wide, high)
    check_side(side)
    return [(i, j) for j in range(_many_across(high, side)) for i in range(_many_across(wide, side))]


def tile_points(wide, high, side, tile):
    """Returns the list of the points of a tile, in order."""
    check_size(wide, high)
    check_side(side)
    if not 0 <= tile[0] < _many_across(wide, side) or not 0 <= tile[1] < _many_across(high, side):
        raise NotAllowed("not a tile")
    return [(x, y) for y in _span(tile[1], side, high) for x in _span(tile[0], side, wide)]


def _span(place, side, long):
    """Returns the list of the columns, or of the rows, of a tile at a place among so many of them."""
    return list(range(place * side, min(long, (place + 1) * side)))


def tiles_in(wide, high, side, view):
    """Returns the list of the tiles with a point in a view, in order."""
    check_size(wide, high)
    check_side(side)
    check_view(view)
    left, top, across, down = view
    columns = _numbers_along(left, across, wide, side)
    rows = _numbers_along(top, down, high, side)
    return [(i, j) for j in rows for i in columns]


def _numbers_along(start, long, whole, side):
    """Returns the list of the places of tiles that have a point of so many from a start on."""
    first, behind = max(0, start), min(whole, start + long)
    if first >= behind:
        return []
    return list(range(first // side, (behind - 1) // side + 1))


def asks_of(wide, high, side, views):
    """Returns the asks of views, and their costs."""
    check_size(wide, high)
    check_side(side)
    across = _many_across(wide, side)
    asks, costs = [], []
    for view in views:
        for i, j in tiles_in(wide, high, side, view):
            asks.append(j * across + i)
            costs.append(len(tile_points(wide, high, side, (i, j))))
    if len(asks) > MAX_ASKS:
        raise TooLarge("too many asks")
    if asks and max(asks) > MAX_PIECE:
        raise TooLarge("a number above that of the last piece")
    return (tuple(asks), tuple(costs))
