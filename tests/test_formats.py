"""[7.5] to [7.8]: the bodies of the six kinds, what is seen behind some points, codes, and the least one."""

import itertools
import unittest

from paintershouse.errors import BadForm, NotAllowed
from paintershouse.formats import KINDS, code_of, least_code, read_code, seen_of, sizes_of
from tests.making import Maker

CLEAR, RED, BLUE = (0, 0, 0, 0), (15, 0, 0, 15), (0, 0, 15, 15)
SIDES = [(1, 1), (2, 1), (1, 3), (3, 2), (4, 4), (5, 3), (7, 7), (8, 8), (9, 9), (17, 2), (3, 20), (24, 1), (24, 24)]


def number(value, size):
    """A number in so many bits."""
    return format(value, "b").zfill(size) if size else ""


def gamma(value):
    digits = format(value, "b")
    return "0" * (len(digits) - 1) + digits


def told_pixel(pixel):
    red, green, blue, cover = pixel
    return number(cover, 4) + (number(red, 4) + number(green, 4) + number(blue, 4) if cover else "")


def checks(bits):
    """The rest of the division by x^8 + x^2 + x + 1, place by place."""
    rest = [int(bit) for bit in bits + "00000000"]
    for k in range(len(bits)):
        if rest[k]:
            for place in (0, 6, 7, 8):
                rest[k + place] ^= 1
    return "".join(str(bit) for bit in rest[len(bits):])


def head(kind, wide, high):
    return number(kind, 3) + number(wide - 1, 5) + number(high - 1, 5)


def whole(bits):
    """Bits with their check bits."""
    return bits + checks(bits)


def all_pixels(picture):
    return [pixel for row in picture for pixel in row]


def plain_runs(picture):
    return "".join(gamma(len(list(run))) + told_pixel(pixel) for pixel, run in itertools.groupby(all_pixels(picture)))


def index_size(many):
    size = 0
    while 2 ** size < many:
        size += 1
    return size


def plain_table(picture):
    table = sorted(set(all_pixels(picture)))
    size = index_size(len(table))
    bits = gamma(len(table)) + "".join(map(told_pixel, table))
    return bits + "".join(number(table.index(pixel), size) for pixel in all_pixels(picture))


def plain_lengths(counts):
    """The least lengths, as [7.2] makes them."""
    nodes = [(count, at, [at]) for at, count in enumerate(counts)]
    lengths, made = [0] * len(counts), len(counts)
    while len(nodes) > 1:
        nodes.sort()
        (one, _, signs), (other, _, others) = nodes[:2]
        for sign in signs + others:
            lengths[sign] += 1
        nodes = nodes[2:] + [(one + other, made, signs + others)]
        made += 1
    return lengths


def plain_codes(lengths):
    codes, value, last = {}, 0, 0
    for k, (length, sign) in enumerate(sorted((length, sign) for sign, length in enumerate(lengths))):
        value = (value + 1 if k else 0) << (length - last)
        codes[sign], last = number(value, length), length
    return codes


def plain_coded(picture):
    pixels = all_pixels(picture)
    table = sorted(set(pixels))
    lengths = plain_lengths([pixels.count(pixel) for pixel in table])
    codes = plain_codes(lengths)
    bits = gamma(len(table)) + "".join(told_pixel(p) + number(n, 4) for p, n in zip(table, lengths))
    return bits + "".join(codes[table.index(pixel)] for pixel in pixels)


def difference(level, told):
    d = next(d for d in range(-8, 8) if (level - told - d) % 16 == 0)
    return gamma((2 * d if d >= 0 else -2 * d - 1) + 1)


def plain_guess(guess, left, above, corner):
    if guess == 4:
        return min((left, above, corner), key=lambda level: abs(level - (left + above - corner)))
    return (0, left, above, (left + above) // 2)[guess]


def plain_row(picture, y, guess):
    bits = ""
    for x, pixel in enumerate(picture[y]):
        left = picture[y][x - 1] if x else CLEAR
        above = picture[y - 1][x] if y else CLEAR
        corner = picture[y - 1][x - 1] if x and y else CLEAR
        for k in range(4):
            bits += difference(pixel[k], plain_guess(guess, left[k], above[k], corner[k]))
    return bits


def plain_rows(picture, guesses=None):
    bits = ""
    for y in range(len(picture)):
        rows = [number(guess, 3) + plain_row(picture, y, guess) for guess in range(5)]
        bits += rows[guesses[y]] if guesses else min(rows, key=len)
    return bits


def pass_order(wide, high):
    """All points, pass by pass, each with the step of its pass."""
    told = []
    for step in (8, 4, 2, 1):
        for y in range(0, high, step):
            for x in range(0, wide, step):
                if (x, y) not in [point for point, _ in told]:
                    told.append(((x, y), step))
    return told


def plain_passes(picture):
    """The differences of each point, in a list."""
    bits = []
    for (x, y), step in pass_order(len(picture[0]), len(picture)):
        told = CLEAR if step == 8 else picture[y - y % (2 * step)][x - x % (2 * step)]
        bits.append("".join(difference(picture[y][x][k], told[k]) for k in range(4)))
    return bits


def plain_code(picture, kind):
    bodies = [
        lambda: "".join(map(told_pixel, all_pixels(picture))), lambda: plain_runs(picture), lambda: plain_table(picture),
        lambda: plain_coded(picture), lambda: plain_rows(picture), lambda: "".join(plain_passes(picture)),
    ]
    return whole(head(kind, len(picture[0]), len(picture)) + bodies[kind]())


def made_pictures(seed):
    maker = Maker(seed)
    for sides in SIDES:
        yield maker.picture(*sides)
        yield maker.picture_of(*sides, maker.few_pixels(1))
        yield maker.picture_of(*sides, maker.few_pixels(maker.number(2, 9)))
        yield smooth(maker, *sides)


def smooth(maker, wide, high):
    """A picture whose levels go up and down slowly."""
    a, b, c = (maker.number(0, 3) for _ in range(3))
    return tuple(tuple(((a * x + y) % 16, (b * x + c * y) % 16, x * y % 16, 15 - (x + y) % 3) for x in range(wide)) for y in range(high))


def all_different(wide, high):
    return tuple(tuple((x % 16, y % 16, x // 16 + 2 * (y // 16), 15) for x in range(wide)) for y in range(high))


class CodeTests(unittest.TestCase):
    def test_names(self):
        self.assertEqual(KINDS, ("plain", "runs", "table", "coded", "rows", "passes"))

    def test_bodies(self):
        for picture in made_pictures(201):
            for kind in range(6):
                self.assertEqual(code_of(picture, kind), plain_code(picture, kind), (kind, picture))

    def test_pixels_that_are_all_different(self):
        for picture in (all_different(24, 24), all_different(3, 2)):
            for kind in range(6):
                code = code_of(picture, kind)
                self.assertEqual(code, plain_code(picture, kind))
                self.assertEqual(read_code(code), (kind, picture))

    def test_one_pixel(self):
        for pixel in (CLEAR, RED, (1, 2, 3, 4)):
            for kind in range(6):
                self.assertEqual(code_of(((pixel,),), kind), plain_code(((pixel,),), kind))
        # The table of one pixel has no bits for indexes, nor a length above 0.
        self.assertEqual(code_of(((CLEAR,),), 2), whole("010" + "0" * 10 + "1" + "0000"))
        self.assertEqual(code_of(((CLEAR,),), 3), whole("011" + "0" * 10 + "1" + "0000" + "0000"))
        self.assertEqual(code_of(((CLEAR,) * 2,) * 2, 1), whole("001" + "0000100001" + "00100" + "0000"))
        self.assertEqual(code_of(((RED, RED),), 4), whole("100" + "0000100000" + "001" + "010" + "1" + "1" + "010" + "1111"))

    def test_runs_over_the_end_of_a_row(self):
        picture = ((RED, BLUE, BLUE), (BLUE, BLUE, RED))
        told = "1" + told_pixel(RED) + "00100" + told_pixel(BLUE) + "1" + told_pixel(RED)
        self.assertEqual(code_of(picture, 1), whole(head(1, 3, 2) + told))

    def test_clear_ones(self):
        picture = ((CLEAR, RED), (RED, CLEAR))
        self.assertEqual(code_of(picture, 0), whole(head(0, 2, 2) + "0000" + told_pixel(RED) * 2 + "0000"))
        self.assertEqual(code_of(picture, 2), whole(head(2, 2, 2) + "010" + "0000" + told_pixel(RED) + "0110"))

    def test_guesses_that_cost_as_much(self):
        # With nothing above, the guesses 0 and 2 cost the same; of several the least number is told.
        row = ((3, 9, 0, 15), CLEAR, (8, 8, 8, 8))
        for picture in ((row,), (row, row), ((CLEAR,) * 3,) * 2):
            bits = plain_rows(picture)
            self.assertEqual(code_of(picture, 4), whole(head(4, 3, len(picture)) + bits))
        self.assertEqual(code_of(((CLEAR,) * 3,), 4), whole(head(4, 3, 1) + "000" + "1" * 12))

    def test_passes_of_sides_below_8(self):
        maker = Maker(202)
        for wide, high in itertools.product(range(1, 10), repeat=2):
            picture = maker.picture(wide, high)
            self.assertEqual(code_of(picture, 5), plain_code(picture, 5))
            self.assertEqual(read_code(code_of(picture, 5)), (5, picture))

    def test_wrong_kinds(self):
        for kind in (-1, 6, 7, 8, 100):
            self.assertRaises(NotAllowed, code_of, ((RED,),), kind)


class LeastTests(unittest.TestCase):
    def test_sizes_and_the_least_one(self):
        found = set()
        for picture in made_pictures(203):
            codes = [plain_code(picture, kind) for kind in range(6)]
            sizes = [len(code) for code in codes]
            self.assertEqual(sizes_of(picture), sizes)
            least = least_code(picture)
            self.assertEqual(least, codes[sizes.index(min(sizes))])
            found.add(read_code(least)[0])
        self.assertGreater(len(found), 3)

    def test_of_several_the_least_kind(self):
        first, second, third = (14, 11, 9, 15), (15, 14, 1, 15), (10, 0, 13, 15)
        ties = [
            (((CLEAR,),), (0, 5)), (((CLEAR, CLEAR, (0, 6, 2, 15)),), (0, 1, 5)),
            (((third, third, (11, 14, 11, 15), (11, 14, 11, 15)),), (1, 5)),
            (((second,), ((1, 3, 14, 14),), (second,)), (2, 5)),
            (((CLEAR, CLEAR, first, first), (first,) * 4, (first, CLEAR, CLEAR, CLEAR)), (1, 2)),
        ]
        self.assertEqual(sizes_of(((CLEAR,),)), [25, 26, 26, 30, 28, 25])
        for picture, kinds in ties:
            sizes = sizes_of(picture)
            self.assertEqual(tuple(kind for kind in range(6) if sizes[kind] == min(sizes)), kinds)
            self.assertEqual(least_code(picture), code_of(picture, kinds[0]))


class ReadTests(unittest.TestCase):
    def refused(self, bits, line=1):
        with self.assertRaises(BadForm) as caught:
            read_code(bits)
        self.assertEqual(caught.exception.line, line)

    def test_codes_are_read(self):
        for picture in made_pictures(204):
            for kind in range(6):
                self.assertEqual(read_code(plain_code(picture, kind)), (kind, picture))

    def test_whatever_is_read_is_the_code_of_what_is_told(self):
        maker = Maker(205)
        read = 0
        for k in range(4000):
            wide, high = maker.number(1, 3), maker.number(1, 2)
            bits = head(maker.number(0, 6), wide, high) + "".join(maker.one_of("01") for _ in range(maker.number(4, 45)))
            try:
                kind, picture = read_code(whole(bits))
            except BadForm as error:
                self.assertEqual(error.line, 1)
                continue
            read += 1
            self.assertEqual(code_of(picture, kind), whole(bits))
            self.assertEqual(plain_code(picture, kind), whole(bits))
        self.assertGreater(read, 20)

    def test_changed_bodies_with_right_check_bits(self):
        maker = Maker(206)
        read = 0
        for picture in made_pictures(206):
            for kind in range(6):
                bits = code_of(picture, kind)[:-8]
                if len(bits) > 700:
                    continue
                for _ in range(12):
                    at = maker.number(0, len(bits) - 1)
                    other = whole(bits[:at] + ("1" if bits[at] == "0" else "0") + bits[at + 1:])
                    try:
                        answer = read_code(other)
                    except BadForm:
                        continue
                    read += 1
                    self.assertEqual(code_of(answer[1], answer[0]), other)
        self.assertGreater(read, 100)

    def test_lengths_of_texts(self):
        self.refused("", 1)
        self.refused("0" * 24000, 1)
        self.refused("0" * 24001, 0)
        self.refused("x" * 24001, 0)
        self.refused("x" * 24000, 1)

    def test_texts_that_are_no_bits(self):
        code = code_of(((RED,),), 0)
        for text in ("2", "0 1", code + "\n", code + " ", code[:-1] + "x", "x" + code):
            self.refused(text)

    def test_beginnings_and_more_bits(self):
        for kind in range(6):
            code = code_of(((RED, CLEAR), (CLEAR, BLUE)), kind)
            for k in range(len(code)):
                self.refused(code[:k])
                if k != len(code) - 8:
                    self.refused(whole(code[:k]))
            for more in ("0", "1", "00000000", code):
                self.refused(code + more)
                self.refused(whole(code[:-8] + more))
            self.refused(whole(code))

    def test_kinds_6_and_7_and_sides_above_24(self):
        for kind in (6, 7):
            self.refused(whole(number(kind, 3) + "0" * 10 + "0000"))
        for wide, high in ((25, 1), (1, 25), (32, 32), (25, 25)):
            for kind in range(6):
                told = {0: "0000" * wide * high, 1: gamma(wide * high) + "0000", 2: "10000", 3: "100000000"}
                self.refused(whole(head(kind, wide, high) + told.get(kind, "1" * 4 * wide * high)))

    def test_a_run_in_two(self):
        bits = head(1, 4, 1)
        self.assertEqual(read_code(whole(bits + gamma(4) + told_pixel(RED)))[1], ((RED,) * 4,))
        self.refused(whole(bits + gamma(2) + told_pixel(RED) + gamma(2) + told_pixel(RED)))
        self.refused(whole(bits + gamma(3) + told_pixel(RED)))
        self.refused(whole(bits + gamma(5) + told_pixel(RED)))
        self.refused(whole(bits + gamma(3) + told_pixel(RED) + gamma(2) + told_pixel(BLUE)))
        self.refused(whole(bits + gamma(10 ** 6 + 1) + told_pixel(RED)))

    def test_tables_that_are_none(self):
        bits, red, blue, clear = head(2, 3, 1), told_pixel(RED), told_pixel(BLUE), told_pixel(CLEAR)
        self.assertEqual(read_code(whole(bits + gamma(2) + blue + red + "010"))[1], ((BLUE, RED, BLUE),))
        self.refused(whole(bits + gamma(2) + red + blue + "101"))
        self.refused(whole(bits + gamma(2) + red + red + "010"))
        self.refused(whole(bits + gamma(2) + red + red + "000"))
        self.refused(whole(bits + gamma(2) + blue + red + "111"))
        self.refused(whole(bits + gamma(3) + clear + blue + red + "100110"))
        self.refused(whole(bits + gamma(3) + clear + blue + red + "110000"))
        self.refused(whole(bits + gamma(4) + clear + blue + told_pixel((1, 1, 1, 1)) + red + "000001"))
        self.refused(whole(bits + gamma(1) + red + "000"))

    def test_codes_of_other_lengths(self):
        bits, red, blue, clear = head(3, 4, 1), told_pixel(RED), told_pixel(BLUE), told_pixel(CLEAR)
        told = gamma(3) + clear + "0001" + blue + "0010" + red + "0010"
        self.assertEqual(read_code(whole(bits + told + "0" + "0" + "10" + "11"))[1], ((CLEAR, CLEAR, BLUE, RED),))
        # With as many of each, lengths that come to 1, but not the least ones for these counts.
        self.refused(whole(bits + told + "0" + "10" + "10" + "11"))
        self.refused(whole(bits + told + "0" + "0" + "0" + "11"))
        wrong = gamma(3) + clear + "0010" + blue + "0010" + red + "0010"
        self.refused(whole(bits + wrong + "00" + "00" + "01" + "10"))
        wrong = gamma(2) + blue + "0001" + red + "0010"
        self.refused(whole(bits + wrong + "0" + "0" + "10" + "0"))
        self.refused(whole(bits + gamma(1) + red + "0001" + "0000"))
        self.assertEqual(read_code(whole(bits + gamma(1) + red + "0000"))[1], ((RED,) * 4,))
        self.refused(whole(bits + gamma(2) + red + "0001" + blue + "0001" + "0101"))
        self.refused(whole(bits + gamma(2) + red + "0000" + blue + "0000"))

    def test_guesses_that_cost_more(self):
        maker = Maker(207)
        for _ in range(30):
            picture = smooth(maker, maker.number(1, 4), 2)
            best = plain_rows(picture)
            for guesses in itertools.product(range(5), repeat=2):
                bits = plain_rows(picture, guesses)
                if bits == best:
                    self.assertEqual(read_code(whole(head(4, len(picture[0]), 2) + bits)), (4, picture))
                else:
                    self.refused(whole(head(4, len(picture[0]), 2) + bits))
        for guess in (5, 6, 7):
            self.refused(whole(head(4, 1, 1) + number(guess, 3) + "1111"))

    def test_colours_without_cover(self):
        for kind, ahead in ((4, "000"), (5, "")):
            bits = head(kind, 1, 1) + ahead
            self.assertEqual(read_code(whole(bits + "1111")), (kind, ((CLEAR,),)))
            for told in ("010111", "101011", "110101", gamma(16) + "111", "1" + gamma(7) + gamma(2) + "1"):
                self.refused(whole(bits + told))

    def test_differences_that_are_none(self):
        for kind, ahead in ((4, "000"), (5, "")):
            for value in (17, 18, 31, 1000, 2 ** 20, 2 ** 21):
                for k in range(4):
                    told = ["1", "1", "1", "010"]
                    told[k] = gamma(value)
                    self.refused(whole(head(kind, 1, 1) + ahead + "".join(told)))


class TheoremTests(unittest.TestCase):
    """[7.8]: bits that differ little are not both codes, and each code tells one picture and one kind."""

    def pictures(self):
        maker = Maker(208)
        yield ((CLEAR,),)
        yield ((RED, CLEAR),)
        yield maker.picture(3, 2)
        yield maker.picture_of(5, 3, maker.few_pixels(3))

    def refused(self, code, at, change):
        bits = [int(bit) for bit in code]
        for k, bit in enumerate(change):
            bits[at + k] ^= bit
        text = "".join(map(str, bits))
        self.assertNotEqual(text, code)
        self.assertRaises(BadForm, read_code, text)

    def test_one_bit_alone(self):
        for picture in self.pictures():
            for kind in range(6):
                code = code_of(picture, kind)
                for at in range(len(code)):
                    self.refused(code, at, (1,))

    def test_some_bits_within_8(self):
        changes = [(1,) + rest for rest in itertools.product((0, 1), repeat=7)]
        for picture in self.pictures():
            for kind in range(6):
                code = code_of(picture, kind)
                for at in range(len(code) - 7):
                    for change in changes[at % 16::16]:
                        self.refused(code, at, change)
        code = code_of(((RED, CLEAR),), 1)
        for at in range(len(code) - 7):
            for change in changes:
                self.refused(code, at, change)

    def test_great_codes(self):
        maker = Maker(209)
        picture = maker.picture(24, 24)
        for kind in range(6):
            code = code_of(picture, kind)
            for _ in range(12):
                change = (1,) + tuple(maker.number(0, 1) for _ in range(7))
                self.refused(code, maker.number(0, len(code) - 8), change)

    def test_each_code_tells_one_picture_and_one_kind(self):
        told = {}
        pixels = (CLEAR, RED, (0, 0, 0, 1))
        for wide, high in ((1, 1), (2, 1), (1, 2), (2, 2)):
            for row in itertools.product(pixels, repeat=wide * high):
                picture = tuple(tuple(row[y * wide:(y + 1) * wide]) for y in range(high))
                for kind in range(6):
                    code = code_of(picture, kind)
                    self.assertNotIn(code, told)
                    told[code] = (kind, picture)
                    self.assertEqual(read_code(code), (kind, picture))


class SeenTests(unittest.TestCase):
    def refused(self, bits, line=1):
        with self.assertRaises(BadForm) as caught:
            seen_of(bits)
        self.assertEqual(caught.exception.line, line)

    def plain_seen(self, picture, many):
        """What is seen behind so many points."""
        order = [point for point, _ in pass_order(len(picture[0]), len(picture))]
        known = set(order[:many])
        rows = []
        for y in range(len(picture)):
            row = []
            for x in range(len(picture[0])):
                places = [(x, y)] + [(x - x % rest, y - y % rest) for rest in (2, 4, 8)]
                there = [place for place in places if place in known]
                row.append(picture[there[0][1]][there[0][0]] if there else CLEAR)
            rows.append(tuple(row))
        return tuple(rows)

    def test_beginnings_of_all_lengths(self):
        maker = Maker(210)
        for sides in ((1, 1), (2, 1), (3, 3), (5, 4), (9, 3), (10, 9), (17, 2)):
            picture = maker.picture(*sides)
            code, points = code_of(picture, 5), plain_passes(picture)
            ends = [13 + sum(map(len, points[:k])) for k in range(len(points) + 1)]
            wanted = [self.plain_seen(picture, k) for k in range(len(points) + 1)]
            for k in range(len(code) + 1):
                if k < 13:
                    self.refused(code[:k])
                    continue
                many = max(n for n, end in enumerate(ends) if end <= k)
                self.assertEqual(seen_of(code[:k]), (wanted[many], many))

    def test_a_great_picture(self):
        picture = Maker(211).picture(24, 24)
        code, points = code_of(picture, 5), plain_passes(picture)
        for many in (0, 1, 8, 9, 10, 36, 100, 144, 200, 575, 576):
            bits = code[:13 + sum(map(len, points[:many]))]
            self.assertEqual(seen_of(bits), (self.plain_seen(picture, many), many))
        self.assertEqual(seen_of(code), (picture, 576))

    def test_the_check_bits_are_not_looked_at(self):
        code = code_of(((RED, CLEAR),), 5)
        for end in ("", "0", "11111111", "1" * 100, "0" * 100, "01" * 60, "0" * (24000 - len(code) + 8)):
            self.assertEqual(seen_of(code[:-8] + end), (((RED, CLEAR),), 2))
        self.refused(code[:-8] + "0" * (24001 - len(code) + 8), 0)
        self.refused(code[:-8] + "2")

    def test_no_beginnings(self):
        code = code_of(((RED, CLEAR),), 5)
        self.refused("x" * 24001, 0)
        for bits in ("", "1", "101", code[:12], "x", code + "x", " " + code, "2" * 24000):
            self.refused(bits)
        for kind in (0, 1, 2, 3, 4, 6, 7):
            self.refused(number(kind, 3) + code[3:])
        for wide, high in ((25, 1), (1, 25), (32, 32)):
            self.refused(head(5, wide, high) + "1" * 50)
        self.assertEqual(seen_of(head(5, 24, 24)), (((CLEAR,) * 24,) * 24, 0))

    def test_points_that_get_no_pixel(self):
        bits = head(5, 2, 1)
        self.assertEqual(seen_of(bits + "1111"), (((CLEAR, CLEAR),), 1))
        for told in ("010111", "1" + gamma(3) + "11", "11" + gamma(16) + "1"):
            self.refused(bits + told)
            self.refused(bits + "1111" + told)
            # It is not told as long as the last of its differences is lacking.
            self.assertEqual(seen_of(bits + told[:-1])[1], 0)
            self.assertEqual(seen_of(bits + "1111" + told[:-1])[1], 1)
        for value in (17, 31, 2 ** 21):
            self.refused(bits + gamma(value) + "111")
            self.refused(bits + "1111" + "111" + gamma(value))


if __name__ == "__main__":
    unittest.main()
