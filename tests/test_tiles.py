"""[6.1] and [6.8]: tiles, views, the tiles in a view, and the asks of views."""

import unittest

from paintershouse.errors import NotAllowed, TooLarge
from paintershouse.pictures import points_of
from paintershouse.tiles import asks_of, tile_points, tiles_in, tiles_of

SIZES = [(1, 1, 1), (1, 1, 24), (5, 3, 2), (6, 4, 2), (24, 24, 1), (24, 24, 24), (23, 24, 7), (3, 2, 5), (1, 24, 5), (8, 1, 3)]
WRONG_SIDES = ((0, 3), (3, 0), (25, 3), (3, 25), (-1, 3))
WRONG_TILE_SIDES = (0, -1, 25, 100)
WRONG_VIEWS = ((0, 0, 0, 1), (0, 0, 1, 0), (0, 0, 25, 1), (0, 0, 1, 25), (2, 2, -1, 3))
VIEWS = [
    (0, 0, 1, 1), (0, 0, 24, 24), (-3, -2, 4, 3), (-3, -2, 3, 24), (-3, -2, 24, 2), (2, 1, 2, 2), (4, 2, 24, 24),
    (5, 0, 1, 1), (0, 3, 1, 1), (100, 0, 3, 3), (0, -1000, 3, 3), (-23, -23, 24, 24), (-24, 0, 24, 5), (3, -1, 9, 2),
]


def plain_tiles(wide, high, side):
    """All tiles with their points, in order: by their rows, then from the left."""
    tiles = {}
    for x, y in points_of(wide, high):
        tiles.setdefault((x // side, y // side), []).append((x, y))
    return {tile: tiles[tile] for tile in sorted(tiles, key=lambda tile: (tile[1], tile[0]))}


def plain_in_view(wide, high, side, view):
    left, top, across, down = view
    return [
        tile for tile, points in plain_tiles(wide, high, side).items()
        if any(left <= x < left + across and top <= y < top + down for x, y in points)
    ]


class TilesTests(unittest.TestCase):
    def test_tiles_and_their_points(self):
        for wide, high, side in SIZES:
            wanted = plain_tiles(wide, high, side)
            self.assertEqual(tiles_of(wide, high, side), list(wanted))
            for tile, points in wanted.items():
                self.assertEqual(tile_points(wide, high, side, tile), points)

    def test_sides_of_tiles(self):
        self.assertEqual(len(tiles_of(24, 24, 1)), 576)
        self.assertEqual(tiles_of(24, 24, 24), [(0, 0)])
        self.assertEqual(tile_points(3, 2, 24, (0, 0)), points_of(3, 2))
        self.assertEqual(tile_points(5, 3, 2, (2, 1)), [(4, 2)])

    def test_no_tiles(self):
        for tile in ((3, 0), (0, 2), (-1, 0), (0, -1), (1, 3)):
            self.assertRaises(NotAllowed, tile_points, 5, 3, 2, tile)
        self.assertRaises(NotAllowed, tile_points, 6, 3, 2, (3, 0))

    def test_tiles_in_views(self):
        for wide, high, side in SIZES:
            for view in VIEWS:
                self.assertEqual(tiles_in(wide, high, side, view), plain_in_view(wide, high, side, view))

    def test_views_outside(self):
        for view in ((5, 0, 3, 3), (0, 3, 3, 3), (-3, 0, 3, 3), (0, -3, 3, 3), (10 ** 9, 0, 24, 24)):
            self.assertEqual(tiles_in(5, 3, 2, view), [])

    def test_wrong_values(self):
        for wide, high in WRONG_SIDES:
            self.assertRaises(NotAllowed, tiles_of, wide, high, 2)
            self.assertRaises(NotAllowed, tile_points, wide, high, 2, (0, 0))
            self.assertRaises(NotAllowed, tiles_in, wide, high, 2, (0, 0, 1, 1))
            self.assertRaises(NotAllowed, asks_of, wide, high, 2, [])
        for side in WRONG_TILE_SIDES:
            self.assertRaises(NotAllowed, tiles_of, 5, 3, side)
            self.assertRaises(NotAllowed, tile_points, 5, 3, side, (0, 0))
            self.assertRaises(NotAllowed, tiles_in, 5, 3, side, (0, 0, 1, 1))
            self.assertRaises(NotAllowed, asks_of, 5, 3, side, [])
        for view in WRONG_VIEWS:
            self.assertRaises(NotAllowed, tiles_in, 5, 3, 2, view)
            self.assertRaises(NotAllowed, asks_of, 5, 3, 2, [(0, 0, 1, 1), view])


class AsksTests(unittest.TestCase):
    def test_plain_reading(self):
        for wide, high, side in ((5, 3, 2), (3, 2, 24), (23, 24, 7), (24, 24, 3), (10, 10, 1)):
            tiles = plain_tiles(wide, high, side)
            numbers = {tile: number for number, tile in enumerate(tiles)}
            for views in ([], VIEWS[:1], VIEWS[2:3] * 3, VIEWS[5:7] + VIEWS[-2:]):
                told = [tile for view in views for tile in plain_in_view(wide, high, side, view)]
                if len(told) > 60 or any(numbers[tile] > 99 for tile in told):
                    self.assertRaises(TooLarge, asks_of, wide, high, side, views)
                    continue
                wanted = (tuple(numbers[tile] for tile in told), tuple(len(tiles[tile]) for tile in told))
                self.assertEqual(asks_of(wide, high, side, views), wanted)

    def test_no_views(self):
        self.assertEqual(asks_of(5, 3, 2, []), ((), ()))
        self.assertEqual(asks_of(5, 3, 2, [(9, 9, 3, 3)]), ((), ()))

    def test_how_many_asks(self):
        ten = (0, 0, 10, 1)
        self.assertEqual(len(asks_of(10, 10, 1, [ten] * 6)[0]), 60)
        self.assertRaises(TooLarge, asks_of, 10, 10, 1, [ten] * 6 + [(9, 9, 1, 1)])

    def test_the_last_number(self):
        self.assertEqual(asks_of(24, 24, 1, [(3, 4, 1, 1)]), ((99,), (1,)))
        self.assertRaises(TooLarge, asks_of, 24, 24, 1, [(4, 4, 1, 1)])
        self.assertEqual(asks_of(24, 24, 2, [(6, 16, 2, 2)]), ((99,), (4,)))

    def test_wrong_views_are_due_ahead_of_too_many(self):
        many = [(0, 0, 10, 10)]
        self.assertRaises(TooLarge, asks_of, 10, 10, 1, many)
        self.assertRaises(NotAllowed, asks_of, 10, 10, 1, many + [(0, 0, 0, 1)])
        self.assertRaises(NotAllowed, asks_of, 24, 24, 1, [(9, 9, 1, 1), (0, 0, 0, 1)])


if __name__ == "__main__":
    unittest.main()
