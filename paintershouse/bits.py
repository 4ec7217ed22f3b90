"""Bits: texts of 0 and 1, what is told in them, and how it is read."""

from paintershouse.errors import BadForm, NotAllowed
from paintershouse.pixels import CLEAR

MAX_SIZE = 32
MAX_GAMMA = 1000000
CHECK_SIZE = 8
# The factors of x^8 + x^2 + x + 1, from that of x^8 on.
DIVISOR = 0b100000111


def written(number, size):
    """Returns a number in so many bits."""
    return "".join(["1" if number >> place & 1 else "0" for place in reversed(range(size))])


def _told(bits):
    """Returns the number that bits tell."""
    number = 0
    for sign in bits:
        number = 2 * number + (1 if sign == "1" else 0)
    return number


def _are_bits(text):
    """Tells whether a text has no other signs than 0 and 1."""
    return text.count("0") + text.count("1") == len(text)


def number_bits(number, size):
    """Returns a number in so many bits, the highest first."""
    if not 0 <= size <= MAX_SIZE:
        raise NotAllowed("not a number of bits")
    if number < 0 or number.bit_length() > size:
        raise NotAllowed("a number that cannot be told in so many bits")
    return written(number, size)


def gamma(number):
    """Returns the gamma of a number."""
    if not 1 <= number <= MAX_GAMMA:
        raise NotAllowed("a number without a gamma")
    digits = number.bit_length()
    return "0" * (digits - 1) + written(number, digits)


def pixel_bits(pixel):
    """Returns the bits of a pixel."""
    red, green, blue, cover = pixel
    if cover == 0:
        return written(cover, 4)
    return "".join([written(level, 4) for level in (cover, red, green, blue)])


def check_bits(bits):
    """Returns the check bits of a text of bits."""
    if not _are_bits(bits):
        raise NotAllowed("other signs than 0 and 1")
    rest = 0
    for sign in bits + "0" * CHECK_SIZE:
        rest = 2 * rest + (1 if sign == "1" else 0)
        if rest >> CHECK_SIZE:
            rest = rest ^ DIVISOR
    return written(rest, CHECK_SIZE)


class BitReader:
    """Reads a text of bits from its beginning on; where something cannot be read, nothing is."""

    def __init__(self, bits):
        if not _are_bits(bits):
            raise BadForm(1)
        self.bits = bits
        self.at = 0

    def number(self, size):
        """Reads and returns a number in so many bits."""
        number = self._ahead(0, size)
        self.at += size
        return number

    def gamma(self):
        """Reads and returns the number of a gamma."""
        first = self.bits.find("1", self.at)
        zeros = first - self.at
        if first < 0 or zeros >= MAX_GAMMA.bit_length():
            raise BadForm(1)
        number = self._ahead(zeros, zeros + 1)
        if number > MAX_GAMMA:
            raise BadForm(1)
        self.at += 2 * zeros + 1
        return number

    def pixel(self):
        """Reads and returns a pixel."""
        cover = self._ahead(0, 4)
        if cover == 0:
            self.at += 4
            return CLEAR
        red, green, blue = [self._ahead(place, 4) for place in (4, 8, 12)]
        self.at += 16
        return (red, green, blue, cover)

    def left(self):
        """Returns the number of bits that have not been read."""
        return len(self.bits) - self.at

    def _ahead(self, skipped, size):
        """Returns the number in so many bits, behind some that are skipped, and reads nothing."""
        start = self.at + skipped
        if start + size > len(self.bits):
            raise BadForm(1)
        return _told(self.bits[start:start + size])
