"""[6.2] and [6.3]: what a document has at a point, tiles that are touched, sights and their work."""

import unittest

from paintershouse.errors import NotAllowed
from paintershouse.layers import seen
from paintershouse.pictures import cut_out, points_of
from paintershouse.pixels import CLEAR, blended
from paintershouse.sight import Sight, has_there, touched
from tests.making import Maker
from tests.test_tiles import WRONG_TILE_SIDES, WRONG_VIEWS, plain_in_view, plain_tiles

RED, BLUE = (15, 0, 0, 15), (0, 0, 15, 15)
LOOK = (1, "plain", 15, ())
TABLES = (tuple(range(16)),) * 4


def paint(name, look, *rows):
    return ("paint", name, look, tuple(rows))


def plain_has(layers, x, y):
    """The words of [6.2]."""
    told = []
    for kind, _, (shown, mode, level, mask), inner in layers:
        if mask:
            level = (level * mask[y][x] + 7) // 15
        if kind == "paint":
            inner = inner[y][x]
        elif kind == "group":
            inner = plain_has(inner, x, y)
        if shown:
            told.append((kind, mode, level, inner))
    return tuple(told)


def pixel_told(there):
    """The pixel of the plain picture, by what the document has there alone."""
    pixel = CLEAR
    for kind, mode, level, inner in there:
        if kind == "tone":
            made = tuple(table[old] for table, old in zip(inner, pixel))
            if made[3] == 0:
                made = CLEAR
            pixel = tuple((old * (15 - level) + new * level + 7) // 15 for old, new in zip(pixel, made))
            if pixel[3] == 0:
                pixel = CLEAR
        else:
            pixel = blended(mode, pixel, inner if kind == "paint" else pixel_told(inner), level)
    return pixel


def changed(maker, document):
    """A document with something else at some of its points, or only in words."""
    wide, high, layers = document
    made = []
    for kind, name, look, inner in layers:
        way = maker.number(0, 9)
        if way == 0 and kind == "paint":
            x, y = maker.number(0, wide - 1), maker.number(0, high - 1)
            row = inner[y][:x] + (maker.pixel(),) + inner[y][x + 1:]
            inner = inner[:y] + (row,) + inner[y + 1:]
        elif way == 1:
            look = maker.look(wide, high)
        elif way == 2:
            name = name + "x"
        elif way == 3 and kind == "tone":
            inner = maker.tables()
        elif kind == "group":
            inner = changed(maker, (wide, high, inner))[2]
        made.append((kind, name, look, inner))
    return (wide, high, tuple(made))


def documents(seed, many):
    maker = Maker(seed)
    for k in range(many):
        wide, high = maker.one_of(((1, 1), (3, 2), (5, 4), (7, 1), (1, 6)))
        yield maker, maker.document(wide, high, maker.number(0, 9))


class HasThereTests(unittest.TestCase):
    def test_plain_reading_and_theorem(self):
        for _, document in documents(71, 60):
            picture = seen(document)
            for x, y in points_of(*document[:2]):
                there = has_there(document, (x, y))
                self.assertEqual(there, plain_has(document[2], x, y))
                self.assertEqual(pixel_told(there), picture[y][x])

    def test_parts(self):
        masked = (1, "times", 9, ((5, 15),))
        document = (2, 1, (
            paint("a", masked, (RED, BLUE)), paint("b", (0, "plain", 15, ()), (RED, RED)),
            ("group", "c", LOOK, (("tone", "d", (1, "apart", 4, ()), TABLES), ("group", "e", (1, "plain", 0, ()), ()))),
        ))
        self.assertEqual(has_there(document, (0, 0)), (
            ("paint", "times", 3, RED),
            ("group", "plain", 15, (("tone", "apart", 4, TABLES), ("group", "plain", 0, ()))),
        ))
        self.assertEqual(has_there(document, (1, 0))[0], ("paint", "times", 9, BLUE))
        self.assertEqual(has_there((1, 1, ()), (0, 0)), ())

    def test_points_outside(self):
        for point in ((2, 0), (0, 1), (-1, 0), (0, -1), (24, 24)):
            self.assertRaises(NotAllowed, has_there, (2, 1, ()), point)


class TouchedTests(unittest.TestCase):
    def test_plain_reading(self):
        for maker, first in documents(72, 80):
            second = changed(maker, first)
            wide, high, _ = first
            for side in (1, 2, 3, 24):
                wanted = [
                    tile for tile, points in plain_tiles(wide, high, side).items()
                    if any(plain_has(first[2], x, y) != plain_has(second[2], x, y) for x, y in points)
                ]
                self.assertEqual(touched(first, second, side), wanted)
            self.assertEqual(touched(first, first, 1), [])

    def test_a_name_alone_and_layers_that_are_not_shown(self):
        first = (3, 1, (paint("a", LOOK, (RED, RED, RED)),))
        self.assertEqual(touched(first, (3, 1, (paint("b", LOOK, (RED, RED, RED)),)), 1), [])
        off = (0, "times", 9, ((1, 2, 3),))
        self.assertEqual(touched(first, (3, 1, first[2] + (paint("b", off, (BLUE, RED, RED)),)), 1), [])
        self.assertEqual(touched(first, (3, 1, first[2] + (("group", "b", off, first[2]),)), 2), [])
        self.assertEqual(touched((3, 1, first[2] + (paint("b", off, (BLUE, RED, RED)),)), first, 1), [])

    def test_a_layer_that_shows_nothing_counts_if_it_is_shown(self):
        first = (3, 1, (paint("a", LOOK, (RED, RED, RED)),))
        nothing = paint("b", (1, "plain", 0, ()), (CLEAR,) * 3)
        self.assertEqual(touched(first, (3, 1, first[2] + (nothing,)), 2), [(0, 0), (1, 0)])

    def test_masks_count_where_they_differ(self):
        def masked(*levels):
            return (3, 1, (paint("a", (1, "plain", 15, (levels,)), (RED, RED, RED)),))
        self.assertEqual(touched(masked(15, 15, 4), masked(15, 15, 5), 2), [(1, 0)])
        self.assertEqual(touched(masked(15, 15, 15), (3, 1, (paint("a", LOOK, (RED, RED, RED)),)), 1), [])
        # Levels that become the same count as the same.
        low = (1, "plain", 1, ((8, 15, 0),))
        other = (1, "plain", 1, ((9, 8, 1),))
        rows = (RED, RED, RED)
        self.assertEqual(touched((3, 1, (paint("a", low, rows),)), (3, 1, (paint("a", other, rows),)), 1), [])

    def test_wrong_values(self):
        for side in WRONG_TILE_SIDES:
            self.assertRaises(NotAllowed, touched, (1, 1, ()), (1, 1, ()), side)
        self.assertRaises(NotAllowed, touched, (1, 2, ()), (2, 1, ()), 1)
        self.assertRaises(NotAllowed, touched, (1, 2, ()), (1, 1, ()), 1)
        self.assertRaises(NotAllowed, touched, (1, 1, ()), (1, 2, ()), 1)
        self.assertRaises(NotAllowed, touched, (1, 1, ()), (2, 1, ()), 1)


class SightTests(unittest.TestCase):
    def test_main_theorem_and_work(self):
        for maker, document in documents(73, 40):
            wide, high, _ = document
            side = maker.one_of((1, 2, 3, 24))
            sight, kept, work = Sight(document, side), set(), 0
            tiles = plain_tiles(wide, high, side)
            for _ in range(12):
                if maker.number(0, 2) == 0:
                    other = changed(maker, document)
                    kept -= {tile for tile, points in tiles.items() if any(
                        plain_has(document[2], x, y) != plain_has(other[2], x, y) for x, y in points
                    )}
                    document = other
                    self.assertIsNone(sight.exchange(document))
                else:
                    view = (maker.number(-3, wide), maker.number(-3, high), maker.number(1, 6), maker.number(1, 6))
                    asked = plain_in_view(wide, high, side, view)
                    work += sum(len(tiles[tile]) for tile in asked if tile not in kept)
                    kept |= set(asked)
                    self.assertEqual(sight.look(view), cut_out(seen(document), *view))
                self.assertEqual(sight.work(), work)
                self.assertEqual(sight.made(), [tile for tile in tiles if tile in kept])

    def test_tiles_are_made_once(self):
        sight = Sight((3, 2, (paint("a", LOOK, (RED,) * 3, (BLUE,) * 3),)), 2)
        self.assertEqual((sight.work(), sight.made()), (0, []))
        self.assertEqual(sight.look((0, 0, 1, 1)), ((RED,),))
        self.assertEqual((sight.work(), sight.made()), (4, [(0, 0)]))
        sight.look((1, 1, 1, 1))
        self.assertEqual(sight.work(), 4)
        sight.look((1, 1, 24, 24))
        self.assertEqual((sight.work(), sight.made()), (6, [(0, 0), (1, 0)]))

    def test_sides_of_tiles(self):
        document = (3, 2, (paint("a", LOOK, (RED,) * 3, (BLUE,) * 3),))
        for side, work in ((1, 1), (2, 4), (3, 6), (24, 6)):
            sight = Sight(document, side)
            sight.look((1, 1, 1, 1))
            self.assertEqual(sight.work(), work)

    def test_views_outside(self):
        sight = Sight((3, 2, (paint("a", LOOK, (RED,) * 3, (BLUE,) * 3),)), 2)
        self.assertEqual(sight.look((3, 0, 2, 1)), ((CLEAR, CLEAR),))
        self.assertEqual((sight.work(), sight.made()), (0, []))
        self.assertEqual(sight.look((-1, 1, 3, 2)), ((CLEAR, BLUE, BLUE), (CLEAR,) * 3))

    def test_exchanges(self):
        first = (3, 1, (paint("a", LOOK, (RED, RED, RED)),))
        second = (3, 1, (paint("a", LOOK, (RED, RED, BLUE)),))
        sight = Sight(first, 1)
        sight.look((0, 0, 3, 1))
        sight.exchange((3, 1, (paint("other", LOOK, (RED, RED, RED)),)))
        self.assertEqual(sight.made(), [(0, 0), (1, 0), (2, 0)])
        sight.exchange(second)
        self.assertEqual(sight.made(), [(0, 0), (1, 0)])
        # Touched twice: a tile that was back to what it had is made again all the same.
        sight.exchange(first)
        self.assertEqual(sight.made(), [(0, 0), (1, 0)])
        self.assertEqual(sight.look((0, 0, 3, 1)), ((RED, RED, RED),))
        self.assertEqual(sight.work(), 4)

    def test_an_exchange_of_masks_names_and_layers_that_are_not_shown(self):
        def masked(*levels):
            return paint("a", (1, "plain", 15, (levels,)), (RED, RED, RED))
        sight = Sight((3, 1, (masked(15, 15, 15),)), 2)
        sight.look((0, 0, 3, 1))
        sight.exchange((3, 1, (masked(15, 15, 0),)))
        self.assertEqual(sight.made(), [(0, 0)])
        sight.exchange((3, 1, (("paint", "b") + masked(15, 15, 0)[2:],)))
        sight.exchange((3, 1, (masked(15, 15, 0), paint("off", (0, "plain", 15, ()), (BLUE, BLUE, BLUE)))))
        self.assertEqual(sight.made(), [(0, 0)])
        self.assertEqual(sight.look((0, 0, 3, 1)), ((RED, RED, CLEAR),))
        self.assertEqual(sight.work(), 4)

    def test_wrong_values_change_nothing(self):
        for side in WRONG_TILE_SIDES:
            self.assertRaises(NotAllowed, Sight, (1, 1, ()), side)
        document = (5, 3, (paint("a", LOOK, *((RED,) * 5,) * 3),))
        sight = Sight(document, 2)
        sight.look((0, 0, 1, 1))
        for view in WRONG_VIEWS:
            self.assertRaises(NotAllowed, sight.look, view)
        for other in ((3, 5, ()), (5, 2, ()), (4, 3, ()), (6, 4, ()), (5, 4, ())):
            self.assertRaises(NotAllowed, sight.exchange, other)
        self.assertEqual((sight.work(), sight.made()), (4, [(0, 0)]))
        self.assertEqual(sight.look((0, 0, 5, 3)), ((RED,) * 5,) * 3)

    def test_a_copy_goes_its_own_way(self):
        first = (3, 1, (paint("a", LOOK, (RED, RED, RED)),))
        second = (3, 1, (paint("a", LOOK, (BLUE, BLUE, BLUE)),))
        for change_copy in (False, True):
            sight = Sight(first, 1)
            sight.look((0, 0, 1, 1))
            other = sight.copy()
            self.assertIsInstance(other, Sight)
            self.assertEqual((other.work(), other.made()), (1, [(0, 0)]))
            one, two = (other, sight) if change_copy else (sight, other)
            one.look((1, 0, 1, 1))
            self.assertEqual((one.work(), two.work(), two.made()), (2, 1, [(0, 0)]))
            one.exchange(second)
            self.assertEqual((one.made(), two.made()), ([], [(0, 0)]))
            self.assertEqual((one.look((0, 0, 3, 1)), two.look((0, 0, 3, 1))), (((BLUE,) * 3,), ((RED,) * 3,)))
            self.assertEqual((one.work(), two.work()), (5, 3))

    def test_lists_that_are_returned_are_new(self):
        sight = Sight((1, 1, ()), 1)
        sight.look((0, 0, 1, 1))
        sight.made().clear()
        self.assertEqual(sight.made(), [(0, 0)])


if __name__ == "__main__":
    unittest.main()
