"""[1.8]: the texts of pixels and of pictures."""

import unittest

from paintershouse.errors import BadForm
from paintershouse.texts import picture_text, pixel_text, read_picture, read_pixel
from tests.making import Maker

ROW = "f00f 0000\n"


class TextsTestCase(unittest.TestCase):
    def assert_bad(self, read, text, line):
        with self.assertRaises(BadForm) as caught:
            read(text)
        self.assertEqual(caught.exception.line, line, repr(text))


class PixelTextTests(TextsTestCase):
    def test_texts(self):
        for pixel, text in (((0, 0, 0, 0), "0000"), ((15, 10, 9, 1), "fa91"), ((11, 12, 13, 14), "bcde")):
            self.assertEqual(pixel_text(pixel), text)
            self.assertEqual(read_pixel(text), pixel)

    def test_all_digits(self):
        for level in range(16):
            pixel = (level, 15 - level, level, 15)
            self.assertEqual(pixel_text(pixel), f"{level:x}{15 - level:x}{level:x}f")
            self.assertEqual(read_pixel(pixel_text(pixel)), pixel)

    def test_wrong_texts(self):
        for text in (
            "", "f", "f00", "f00f0", "F00F", "f00F", "g00f", " f00f", "f00f ", "f00f\n", "f0 f", "1000", "0100",
            "00f0", "00 0", "-001", "f00f f00f", "\n", "0x0f", "0" * 5000,
        ):
            self.assert_bad(read_pixel, text, 1)


class PictureTextTests(TextsTestCase):
    def test_there_and_back(self):
        maker = Maker(18)
        for wide, high in ((1, 1), (24, 1), (1, 24), (24, 24), (3, 5)):
            picture = maker.picture(wide, high)
            text = picture_text(picture)
            self.assertEqual(len(text), 5 * wide * high)
            self.assertEqual(text, "".join(" ".join(map(pixel_text, row)) + "\n" for row in picture))
            self.assertEqual(read_picture(text), picture)

    def test_too_long(self):
        longest = "f00f\n" * 800
        self.assertEqual(len(longest), 4000)
        self.assert_bad(read_picture, longest, 25)
        self.assert_bad(read_picture, longest + "f", 0)
        self.assert_bad(read_picture, "?" * 4000, 1)
        self.assert_bad(read_picture, "?" * 4001, 0)
        self.assert_bad(read_picture, "\n" * 4001, 0)

    def test_no_line(self):
        self.assert_bad(read_picture, "", 1)

    def test_no_last_newline(self):
        self.assert_bad(read_picture, "f00f", 1)
        self.assert_bad(read_picture, ROW + "f00f 0000", 2)
        self.assert_bad(read_picture, ROW * 3 + "wrong", 4)
        self.assert_bad(read_picture, ROW * 24 + "f", 25)

    def test_lines_that_cannot_stand_there(self):
        for line in (
            "", " ", "f00f", "f00f 0000 0000", "f00f  0000", " f00f 0000", "f00f 0000 ", "f00f 000", "f00f 00000",
            "F00f 0000", "f00f,0000", "f00f 1000", "f00f0000", "f00f 000g", "?",
        ):
            with self.subTest(line=line):
                self.assert_bad(read_picture, ROW + line + "\n" + ROW, 2)
                self.assert_bad(read_picture, ROW * 2 + line + "\n", 3)

    def test_the_first_wrong_line_counts(self):
        self.assert_bad(read_picture, "\n" + ROW, 1)
        self.assert_bad(read_picture, "x\n" + ROW + "f00f", 1)
        self.assert_bad(read_picture, ROW + "x\n" + ROW + "y\n", 2)
        self.assert_bad(read_picture, "\n", 1)
        self.assert_bad(read_picture, ROW + "\n", 2)

    def test_sides(self):
        widest = " ".join(["0000"] * 24) + "\n"
        self.assertEqual(len(read_picture(widest)[0]), 24)
        self.assertEqual(len(read_picture("0000\n" * 24)), 24)
        self.assert_bad(read_picture, " ".join(["0000"] * 25) + "\n", 1)
        self.assert_bad(read_picture, widest + " ".join(["0000"] * 25) + "\n", 2)
        self.assert_bad(read_picture, "0000\n" * 25, 25)
        self.assert_bad(read_picture, "0000\n" * 26, 25)
        self.assert_bad(read_picture, "0000\n" * 25 + "x\n", 25)


if __name__ == "__main__":
    unittest.main()
