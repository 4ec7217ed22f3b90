"""[5.5]: open layers, fillings, and the pixel that is seen with pixels of the open layers."""

import unittest

from paintershouse.errors import NotAllowed
from paintershouse.layers import layer, seen
from paintershouse.opened import check_open, filled, pixel_seen
from paintershouse.pictures import points_of
from tests.making import Maker, dot
from tests.test_layers import LOOK, all_layers, group, paint, tone

CLEAR, RED, BLUE = (0, 0, 0, 0), (15, 0, 0, 15), (0, 0, 15, 15)
DOCUMENT = (1, 1, (paint("a"), group("b", tone("c"), paint("d"), group("e", paint("f"))), paint("g")))
WRONG_OPENS = [
    (), ("a", "d", "f"), ("z",), ("",), ("b",), ("c",), ("e",), ("a", "a"), ("d", "a"), ("g", "d"), ("a", "b"), ("c", "d"),
    ("a", "z"), ("A",), ("a", "d", "g", "f"),
]


def opened_documents(seed, many, most=2):
    """Documents with the names of one or two of their paint layers."""
    maker = Maker(seed)
    while many:
        wide, high = maker.one_of(((1, 1), (2, 1), (2, 2)))
        document = maker.document(wide, high, maker.number(1, 7))
        names = [item[1] for item in all_layers(document[2]) if item[0] == "paint"]
        opens = tuple(name for name in names if maker.number(0, 1))[:maker.number(1, most)]
        if opens:
            many -= 1
            yield maker, document, opens


def plain_filled(layers, opens, pictures):
    made = []
    for kind, name, look, inner in layers:
        if name in opens:
            inner = pictures[opens.index(name)]
        elif kind == "group":
            inner = plain_filled(inner, opens, pictures)
        made.append((kind, name, look, inner))
    return tuple(made)


class OpenTests(unittest.TestCase):
    def test_open_layers(self):
        for opens in (("a",), ("d",), ("f",), ("g",), ("a", "d"), ("a", "g"), ("d", "f"), ("f", "g"), ("d", "g")):
            self.assertIsNone(check_open(DOCUMENT, opens))
        # A layer that is not shown can be open, too.
        check_open((1, 1, (paint("a", (0, "plain", 0, ())),)), ("a",))

    def test_no_open_layers(self):
        for opens in WRONG_OPENS:
            self.assertRaises(NotAllowed, check_open, DOCUMENT, opens)
            self.assertRaises(NotAllowed, filled, DOCUMENT, opens, (dot(1, 1, (0, 0), RED),) * len(opens))
            self.assertRaises(NotAllowed, pixel_seen, DOCUMENT, opens, (0, 0), (RED,) * len(opens))
        self.assertRaises(NotAllowed, check_open, (1, 1, ()), ("a",))


class FilledTests(unittest.TestCase):
    def test_plain_reading(self):
        for maker, document, opens in opened_documents(161, 80):
            wide, high, layers = document
            pictures = tuple(maker.picture(wide, high) for _ in opens)
            made = filled(document, opens, pictures)
            self.assertEqual(made, (wide, high, plain_filled(layers, opens, pictures)))
            for name, picture in zip(opens, pictures):
                self.assertEqual(layer(made, name)[3], picture)

    def test_no_fillings(self):
        document = (2, 1, (paint("a", LOOK, ((RED, RED),)), paint("b", LOOK, ((RED, RED),))))
        good = ((CLEAR, BLUE),)
        self.assertEqual(filled(document, ("b",), (good,)), (2, 1, (document[2][0], paint("b", LOOK, good))))
        for wrong in ((), ((),), ((RED,),), ((RED,), (RED,)), ((RED, RED, RED),), ((RED, (1, 2, 3)),), ((RED, (1, 0, 0, 0)),),
                      ((RED, RED), (RED, RED)), ((RED, (0, 0, 16, 1)),)):
            self.assertRaises(NotAllowed, filled, document, ("a",), (wrong,))
            self.assertRaises(NotAllowed, filled, document, ("a", "b"), (good, wrong))
            self.assertRaises(NotAllowed, filled, document, ("a", "b"), (wrong, good))
        for pictures in ((), (good,), (good,) * 3):
            self.assertRaises(NotAllowed, filled, document, ("a", "b"), pictures)
        self.assertRaises(NotAllowed, filled, document, ("a",), (good, good))


class PixelTests(unittest.TestCase):
    def test_plain_reading(self):
        for maker, document, opens in opened_documents(162, 100):
            wide, high, layers = document
            for x, y in points_of(wide, high):
                pixels = tuple(maker.pixel() for _ in opens)
                pictures = tuple(dot(wide, high, (x, y), pixel) for pixel in pixels)
                wanted = seen((wide, high, plain_filled(layers, opens, pictures)))[y][x]
                self.assertEqual(pixel_seen(document, opens, (x, y), pixels), wanted)

    def test_wrong_values(self):
        document = (2, 1, (paint("a", LOOK, ((RED, RED),)), paint("b", LOOK, ((RED, RED),))))
        for point in ((2, 0), (0, 1), (-1, 0), (0, -1)):
            self.assertRaises(NotAllowed, pixel_seen, document, ("a",), point, (RED,))
        for pixels in ((), (RED, RED), ((1, 2, 3),), ((1, 0, 0, 0),), ((0, 0, 0, 16),), ((),)):
            self.assertRaises(NotAllowed, pixel_seen, document, ("a",), (0, 0), pixels)
        self.assertRaises(NotAllowed, pixel_seen, document, ("a", "b"), (0, 0), (RED,))
        self.assertRaises(NotAllowed, pixel_seen, document, ("a", "b"), (0, 0), (RED, (0, 0, 0, 16)))


if __name__ == "__main__":
    unittest.main()
