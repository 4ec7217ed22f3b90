"""[7.1], and the check bits of [7.8]: numbers, gammas, pixels and check bits, told and read."""

import unittest

from paintershouse.bits import BitReader, check_bits, gamma, number_bits, pixel_bits
from paintershouse.errors import BadForm, NotAllowed
from paintershouse.pixels import CLEAR
from tests.making import Maker

WRONG_BITS = ("2", "0102", " 01", "01 ", "0\n1", "O1", "-1", "0b1", "1_0")


def plain_rest(bits):
    """The rest of the bits with 8 zeros behind them, by x^8 + x^2 + x + 1, power by power."""
    factors = [int(sign) for sign in bits] + [0] * 8
    for at in range(len(bits)):
        if factors[at]:
            for behind in (0, 6, 7, 8):
                factors[at + behind] ^= 1
    return "".join(str(factor) for factor in factors[-8:])


def random_bits(maker, many):
    return "".join(str(maker.number(0, 1)) for _ in range(many))


class NumberTests(unittest.TestCase):
    def test_numbers(self):
        self.assertEqual(number_bits(5, 4), "0101")
        self.assertEqual(number_bits(0, 0), "")
        self.assertEqual(number_bits(1, 1), "1")
        for size in range(1, 33):
            for number in (0, 1, 2 ** size - 1, 2 ** (size - 1), 2 ** size // 3):
                self.assertEqual(number_bits(number, size), format(number, "b").zfill(size))

    def test_numbers_that_cannot_be_told(self):
        for number, size in ((1, 0), (16, 4), (2 ** 32, 32), (-1, 4), (-1, 0), (-16, 32)):
            self.assertRaises(NotAllowed, number_bits, number, size)

    def test_wrong_sizes(self):
        for size in (-1, 33, 100):
            self.assertRaises(NotAllowed, number_bits, 0, size)
            self.assertRaises(NotAllowed, number_bits, 1, size)


class GammaTests(unittest.TestCase):
    def test_gammas(self):
        self.assertEqual([gamma(k) for k in range(1, 6)], ["1", "010", "011", "00100", "00101"])
        for number in list(range(1, 300)) + [65535, 65536, 524287, 524288, 999999, 1000000]:
            digits = format(number, "b")
            self.assertEqual(gamma(number), "0" * (len(digits) - 1) + digits)

    def test_wrong_numbers(self):
        for number in (0, -1, 1000001, 2 ** 40):
            self.assertRaises(NotAllowed, gamma, number)


class PixelTests(unittest.TestCase):
    def test_pixels(self):
        self.assertEqual(pixel_bits((1, 2, 3, 4)), "0100000100100011")
        self.assertEqual(pixel_bits(CLEAR), "0000")
        self.assertEqual(pixel_bits((0, 0, 0, 1)), "0001" + "0" * 12)
        maker = Maker(81)
        for _ in range(100):
            red, green, blue, cover = maker.pixel()
            wanted = f"{cover:04b}" + (f"{red:04b}{green:04b}{blue:04b}" if cover else "")
            self.assertEqual(pixel_bits((red, green, blue, cover)), wanted)


class CheckTests(unittest.TestCase):
    def test_examples(self):
        self.assertEqual(check_bits(""), "00000000")
        self.assertEqual(check_bits("1"), "00000111")
        self.assertEqual(check_bits("0" * 50), "00000000")
        # The known check of the signs 1 to 9, as bytes.
        self.assertEqual(check_bits("".join(f"{ord(sign):08b}" for sign in "123456789")), "11110100")

    def test_plain_reading(self):
        maker = Maker(82)
        for many in list(range(40)) + [300, 5000]:
            bits = random_bits(maker, many)
            self.assertEqual(check_bits(bits), plain_rest(bits))

    def test_with_their_check_bits_all_have_the_rest_0(self):
        maker = Maker(83)
        for many in (0, 1, 7, 60):
            bits = random_bits(maker, many)
            self.assertEqual(check_bits(bits + check_bits(bits)), "00000000")

    def test_bits_that_differ_within_8_have_other_check_bits(self):
        maker = Maker(84)
        bits = random_bits(maker, 60)
        wanted = check_bits(bits)
        for at in range(53):
            for turned in range(1, 256):
                part = format(int(bits[at:at + 8], 2) ^ turned, "08b")
                self.assertNotEqual(check_bits(bits[:at] + part + bits[at + 8:]), wanted)

    def test_other_signs(self):
        for bits in WRONG_BITS:
            self.assertRaises(NotAllowed, check_bits, bits)


class ReaderTests(unittest.TestCase):
    def test_what_is_told_is_read(self):
        maker = Maker(85)
        for _ in range(60):
            told, bits = [], ""
            for _ in range(maker.number(0, 12)):
                word = maker.one_of(("number", "gamma", "pixel"))
                if word == "number":
                    size = maker.number(0, 32)
                    value = maker.number(0, 2 ** size - 1)
                    told.append((word, (size,), value))
                    bits += number_bits(value, size)
                elif word == "gamma":
                    value = maker.one_of((1, 2, 1000000, maker.number(1, 5000)))
                    told.append((word, (), value))
                    bits += gamma(value)
                else:
                    value = maker.pixel()
                    told.append((word, (), value))
                    bits += pixel_bits(value)
            rest = random_bits(maker, maker.number(0, 9))
            reader = BitReader(bits + rest)
            for word, arguments, value in told:
                self.assertEqual(getattr(reader, word)(*arguments), value)
            self.assertEqual(reader.left(), len(rest))

    def test_heads(self):
        for wide in range(1, 25):
            high = 25 - wide
            head = number_bits(wide - 1, 5) + number_bits(high - 1, 5)
            self.assertEqual(head, f"{wide - 1:05b}{high - 1:05b}")
            reader = BitReader(head)
            self.assertEqual((reader.number(5) + 1, reader.number(5) + 1, reader.left()), (wide, high, 0))

    def test_no_bits(self):
        reader = BitReader("")
        self.assertEqual((reader.left(), reader.number(0)), (0, 0))
        for call in (lambda: reader.number(1), reader.gamma, reader.pixel):
            self.refused(call)
        self.assertEqual(reader.left(), 0)

    def test_sizes(self):
        reader = BitReader("1" * 64)
        self.assertEqual((reader.number(32), reader.left()), (2 ** 32 - 1, 32))
        self.assertEqual((reader.number(0), reader.left()), (0, 32))
        self.assertEqual((reader.number(32), reader.left()), (2 ** 32 - 1, 0))

    def test_bits_that_end_too_early(self):
        for bits, left_over in (("1", 1), ("101", 3), ("", 0)):
            reader = BitReader("01" + bits)
            self.assertEqual(reader.number(2), 1)
            self.refused(lambda: reader.number(4))
            self.assertEqual(reader.left(), left_over)
            self.refused(reader.pixel)
            self.assertEqual(reader.left(), left_over)
        for bits in ("0", "000", "001", "0010", "00010", "0" * 100, "0" * 19 + "1" * 19):
            reader = BitReader(bits)
            self.refused(reader.gamma)
            self.assertEqual(reader.left(), len(bits))
            self.assertEqual(reader.number(1), 0)

    def test_pixels_that_are_not_whole(self):
        whole = pixel_bits((1, 2, 3, 4))
        for many in range(16):
            reader = BitReader(whole[:many])
            self.refused(reader.pixel)
            self.assertEqual(reader.left(), many)
        self.assertEqual(BitReader(whole).pixel(), (1, 2, 3, 4))
        self.assertEqual(BitReader("0001" + "1" * 12).pixel(), (15, 15, 15, 1))

    def test_gammas_that_are_too_great(self):
        for number in (1000001, 2 ** 20 - 1, 2 ** 20, 2 ** 40):
            digits = format(number, "b")
            bits = "0" * (len(digits) - 1) + digits + "1"
            reader = BitReader(bits)
            self.refused(reader.gamma)
            self.assertEqual(reader.left(), len(bits))
        self.assertEqual(BitReader(gamma(1000000)).gamma(), 1000000)

    def test_other_signs(self):
        for bits in WRONG_BITS:
            self.refused(lambda: BitReader(bits))

    def refused(self, call):
        with self.assertRaises(BadForm) as caught:
            call()
        self.assertEqual(caught.exception.line, 1)


if __name__ == "__main__":
    unittest.main()
