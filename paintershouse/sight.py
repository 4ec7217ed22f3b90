"""Sights: what is seen of documents, made tile by tile and kept."""

from paintershouse.errors import NotAllowed
from paintershouse.layers import layers_there, pixel_over
from paintershouse.pixels import CLEAR
from paintershouse.regions import is_within
from paintershouse.tiles import check_side, tile_points, tiles_in, tiles_of


def has_there(document, point):
    """Returns what a document has at a point."""
    if not is_within(document[:2], point):
        raise NotAllowed("not a point of the document")
    return layers_there(document[2], point, ())


def touched(first, second, side):
    """Returns the list of the tiles in which two documents have something else, in order."""
    check_side(side)
    _check_same_sides(first, second)
    wide, high, _ = first
    tiles = []
    for tile in tiles_of(wide, high, side):
        points = tile_points(wide, high, side, tile)
        if any([has_there(first, point) != has_there(second, point) for point in points]):
            tiles.append(tile)
    return tiles


def _check_same_sides(first, second):
    if first[:2] != second[:2]:
        raise NotAllowed("documents with other sides")


class Sight:
    """What is seen of a document, kept in tiles that are made when they are looked at."""

    def __init__(self, document, side):
        check_side(side)
        self.held = document
        self.side = side
        # For each tile that is kept, a dict of its points and pixels.
        self.kept = {}
        self.points_made = 0

    def look(self, view):
        """Returns what is seen in a view."""
        wide, high, _ = self.held
        for tile in tiles_in(wide, high, self.side, view):
            if tile not in self.kept:
                self._make(tile)
        left, top, across, down = view
        rows = []
        for y in range(top, top + down):
            rows.append(tuple([self._pixel(x, y) for x in range(left, left + across)]))
        return tuple(rows)

    def _make(self, tile):
        """Makes a tile, and counts its points."""
        wide, high, layers = self.held
        points = tile_points(wide, high, self.side, tile)
        self.kept[tile] = {point: pixel_over(CLEAR, layers, point) for point in points}
        self.points_made += len(points)

    def _pixel(self, x, y):
        """Returns the pixel at a point, which is outside or in a tile that is kept."""
        if not is_within(self.held[:2], (x, y)):
            return CLEAR
        return self.kept[(x // self.side, y // self.side)][(x, y)]

    def exchange(self, document):
        """Exchanges the document; tiles that are touched are kept no longer."""
        for tile in touched(self.held, document, self.side):
            if tile in self.kept:
                del self.kept[tile]
        self.held = document

    def work(self):
        """Returns the number of the points of all tiles that have been made."""
        return self.points_made

    def made(self):
        """Returns the list of the tiles that are kept and not touched, in order."""
        wide, high, _ = self.held
        return [tile for tile in tiles_of(wide, high, self.side) if tile in self.kept]

    def copy(self):
        """Returns an independent sight with the same tiles."""
        other = Sight(self.held, self.side)
        other.kept = {tile: {point: self.kept[tile][point] for point in self.kept[tile]} for tile in self.kept}
        other.points_made = self.points_made
        return other
