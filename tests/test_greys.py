"""[5.6]: one colour and the cover tell what is seen, for all grey pixels of the open layers."""

import unittest

from paintershouse.greys import (
    Codes, all_codes, blended_code, code_of, grey_codes, grey_pixel, pixels_at, seen_there, toned_code,
)
from paintershouse.layers import layers_there, names_of, pixel_told, toned_at
from paintershouse.pixels import MODES, blended
from tests.making import GREYS, Maker
from tests.test_layers import LOOK, group, paint, tone
from tests.test_opened import opened_documents

CODES = [0] + list(range(16, 256))


class CodesTests(unittest.TestCase):
    def test_codes_and_greys(self):
        self.assertEqual(grey_codes(), CODES)
        self.assertEqual([grey_pixel(code) for code in CODES], GREYS)
        for k in range(3):
            self.assertEqual([code_of(pixel, k) for pixel in GREYS], CODES)
            self.assertEqual(code_of((1, 2, 3, 4), k), 65 + k)
        self.assertEqual(pixels_at(240, 1), (GREYS[240],))
        self.assertEqual(pixels_at(240, 2), (GREYS[0], GREYS[240]))
        self.assertEqual(pixels_at(241 * 7 + 5, 2), (GREYS[7], GREYS[5]))

    def test_blended(self):
        for k, mode in enumerate(MODES):
            for level in (0, 1, 7, 8, 14, 15):
                for below in GREYS[(k + level) % 3::3]:
                    for above in GREYS[level % 5::5]:
                        told = blended_code(mode, code_of(below, 0), code_of(above, 0), level)
                        self.assertEqual(told, code_of(blended(mode, below, above, level), 0))

    def test_toned(self):
        maker = Maker(181)
        for level in range(16):
            for _ in range(6):
                tables = maker.tables()
                for pixel in GREYS:
                    for k in range(3):
                        told = toned_code(code_of(pixel, k), tables[k], tables[3], level)
                        self.assertEqual(told, code_of(toned_at(pixel, tables, level), k))

    def test_lists_of_codes(self):
        lists = Codes()
        for _ in range(2):
            self.assertEqual(
                [lists.over("times", 9, 77)[code] for code in CODES],
                [blended_code("times", code, 77, 9) for code in CODES],
            )
            table, covers = tuple(range(15, -1, -1)), (0,) * 8 + (9,) * 8
            self.assertEqual(
                [lists.toned(table, covers, 9)[code] for code in CODES],
                [toned_code(code, table, covers, 9) for code in CODES],
            )


class SeenTests(unittest.TestCase):
    def check(self, document, opens):
        there = layers_there(document[2], (0, 0), opens)
        many = len(opens)
        for k in range(3):
            codes = all_codes(seen_there(Codes(), k, there), many)
            self.assertEqual(len(codes), 241 ** many)
            for at in range(k, len(codes), 1 if many == 1 else 61):
                self.assertEqual(codes[at], code_of(pixel_told(there, pixels_at(at, many)), k))

    def test_plain_reading(self):
        for _, document, opens in opened_documents(182, 120):
            self.check(document, opens)

    def test_on_what_it_depends(self):
        a, b, over = paint("a"), paint("b", (1, "screen", 9, ())), paint("c", (1, "times", 4, ()))
        low = tone("low", LOOK, ((3,) * 16, (9,) * 16, (4,) * 16, (5,) * 16))
        hidden = ("paint", "b", (0, "plain", 15, ()), a[3])
        off = ("paint", "a", (1, "plain", 0, ()), a[3])
        none = ("group", "g", (0, "plain", 15, ()), (a, b))
        for layers in (
            (low, a, b, over), (low, over, ("group", "g", LOOK, (b, over, a))), (a, over, hidden), (low, off, b, over),
            (over, off, hidden), (a, b, low), (group("g", a, over), group("h", b, over), low[:1] + ("top",) + low[2:]),
            (group("h", b), over, group("g", a)), (b, over, a), (a, b), (low, none), (none,), (over, hidden),
        ):
            document = (1, 1, layers)
            self.check(document, tuple(name for name in names_of(document) if name in ("a", "b")))


if __name__ == "__main__":
    unittest.main()
