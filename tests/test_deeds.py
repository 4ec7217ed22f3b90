"""[3.2] and [3.3]: what each deed changes, and rows of deeds."""

import unittest

from paintershouse.deeds import CARRIERS, NEIGHBOURS, POINTWISE, SEEKERS, done, done_all, flood_region
from paintershouse.pictures import check_picture
from paintershouse.pixels import CLEAR, MODES, blended, faded
from paintershouse.regions import points_in
from tests.making import Maker, plain_region
from tests.test_strokes import plain_stroke

RED, BLUE, PALE = (15, 0, 0, 15), (0, 0, 15, 15), (9, 6, 3, 4)
KEEP = tuple(range(16))
WORDS = POINTWISE + CARRIERS + NEIGHBOURS + SEEKERS
SIDES = [(1, 1), (4, 4), (6, 3), (2, 7), (1, 24), (24, 1), (9, 9)]


def pixel_there(picture, x, y):
    if 0 <= y < len(picture) and 0 <= x < len(picture[0]):
        return picture[y][x]
    return CLEAR


def plain_found(picture, start, tolerance):
    """The region that is found, as a set of points, by [3.2]."""
    wide, high = len(picture[0]), len(picture)
    if start[0] >= wide or start[1] >= high:
        return set()
    first = picture[start[1]][start[0]]
    found, more = set(), {start}
    while more:
        found |= more
        more = {
            (x + dx, y + dy) for x, y in found for dx, dy in ((1, 0), (-1, 0), (0, 1), (0, -1))
            if 0 <= x + dx < wide and 0 <= y + dy < high
            and all(abs(a - b) <= tolerance for a, b in zip(first, picture[y + dy][x + dx]))
        } - found
    return found


def plain_mean(box):
    n, covers = len(box), sum(pixel[3] for pixel in box)
    if covers == 0 or (covers + n // 2) // n == 0:
        return CLEAR
    colours = [(sum(pixel[k] * pixel[3] for pixel in box) + covers // 2) // covers for k in range(3)]
    return (*colours, (covers + n // 2) // n)


def plain_toned(pixel, tables):
    levels = tuple(tables[k][pixel[k]] for k in range(4))
    return levels if levels[3] else CLEAR


def plain_pixel(picture, deed, x, y):
    """The pixel at a point behind a deed that leaves the sides, by the table of [3.2]."""
    word, old = deed[0], picture[y][x]
    if word == "move":
        return pixel_there(picture, x - deed[1], y - deed[2])
    if word in ("flip", "fall"):
        return picture[y][len(picture[0]) - 1 - x] if word == "flip" else picture[len(picture) - 1 - y][x]
    if word == "turn":
        return picture[len(picture) - 1 - x][y]
    if word == "stroke":
        inside = (x, y) in points_in(plain_stroke(deed[1], *deed[2]))
        return blended(deed[4], old, deed[3], deed[5]) if inside else old
    if word == "flood":
        inside = (x, y) in plain_found(picture, deed[1], deed[5])
        return blended(deed[3], old, deed[2], deed[4]) if inside else old
    points = {(a, row) for row, first, last in deed[1] for a in range(first, last + 1)}
    if word == "copy":
        a, b = x - deed[2], y - deed[3]
        there = (a, b) in points and 0 <= a < len(picture[0]) and 0 <= b < len(picture)
        return picture[b][a] if there else old
    if (x, y) not in points:
        return old
    if word == "fill":
        return blended(deed[3], old, deed[2], deed[4])
    if word == "erase":
        return faded(old, deed[2])
    if word == "tone":
        return plain_toned(old, deed[2])
    reach = deed[2]
    box = [
        pixel_there(picture, a, b)
        for b in range(y - reach, y + reach + 1) for a in range(x - reach, x + reach + 1)
    ]
    if word == "mean":
        return plain_mean(box)
    return next(pixel for pixel in box if pixel[3] == max(other[3] for other in box))


def plain_done(picture, deed):
    return tuple(tuple(plain_pixel(picture, deed, x, y) for x in range(len(row))) for y, row in enumerate(picture))


class WordsTests(unittest.TestCase):
    def test_words(self):
        self.assertEqual(POINTWISE, ("fill", "erase", "tone", "stroke"))
        self.assertEqual(CARRIERS, ("move", "flip", "fall", "turn", "copy"))
        self.assertEqual(NEIGHBOURS, ("mean", "swell"))
        self.assertEqual(SEEKERS, ("flood",))


class PointwiseTests(unittest.TestCase):
    def test_fill(self):
        picture = ((RED, CLEAR),)
        both = ((0, 0, 1),)
        self.assertEqual(done(picture, ("fill", both, BLUE, "plain", 15)), ((BLUE, BLUE),))
        self.assertEqual(done(picture, ("fill", ((0, 1, 1),), BLUE, "plain", 15)), ((RED, BLUE),))
        self.assertEqual(done(picture, ("fill", both, BLUE, "plain", 8)), (((7, 0, 8, 15), (0, 0, 15, 8)),))
        self.assertEqual(done(picture, ("fill", both, BLUE, "plain", 0)), picture)
        self.assertEqual(done(picture, ("fill", both, CLEAR, "screen", 15)), picture)
        self.assertEqual(done(picture, ("fill", (), BLUE, "plain", 15)), picture)

    def test_fill_in_all_modes(self):
        below = (4, 10, 15, 15)
        answers = [done(((below,),), ("fill", ((0, 0, 0),), (8, 5, 15, 15), mode, 15))[0][0] for mode in MODES]
        self.assertEqual(answers, [
            (8, 5, 15, 15), (4, 5, 15, 15), (8, 10, 15, 15), (2, 3, 15, 15), (10, 12, 15, 15), (4, 5, 0, 15),
        ])

    def test_erase(self):
        picture = ((RED, PALE, CLEAR),)
        everywhere = ((0, 0, 2),)
        self.assertEqual(done(picture, ("erase", everywhere, 15)), ((CLEAR, CLEAR, CLEAR),))
        self.assertEqual(done(picture, ("erase", everywhere, 0)), picture)
        self.assertEqual(done(picture, ("erase", everywhere, 5)), (((15, 0, 0, 10), (9, 6, 3, 3), CLEAR),))
        self.assertEqual(done(picture, ("erase", everywhere, 14)), (((15, 0, 0, 1), CLEAR, CLEAR),))

    def test_tone(self):
        upside = KEEP[::-1]
        picture = ((RED, PALE, CLEAR),)
        everywhere = ((0, 0, 2),)
        self.assertEqual(done(picture, ("tone", everywhere, (KEEP,) * 4)), picture)
        self.assertEqual(
            done(picture, ("tone", everywhere, (upside, upside, KEEP, KEEP))),
            (((0, 15, 0, 15), (6, 9, 3, 4), CLEAR),),
        )
        # A clear pixel may get a cover, and colours with it; where a cover becomes 0 none are left.
        self.assertEqual(
            done(picture, ("tone", everywhere, (KEEP, upside, KEEP, upside))),
            ((CLEAR, (9, 9, 3, 11), (0, 15, 0, 15)),),
        )

    def test_stroke(self):
        picture = ((CLEAR,) * 3,) * 2
        self.assertEqual(
            done(picture, ("stroke", ((0, 0), (1, 0)), ("round", 0), RED, "plain", 15)),
            ((RED, RED, CLEAR), (CLEAR, CLEAR, CLEAR)),
        )
        self.assertEqual(
            done(picture, ("stroke", ((3, 2),), ("square", 1), RED, "plain", 15)),
            ((CLEAR, CLEAR, CLEAR), (CLEAR, CLEAR, RED)),
        )
        # Where lines of a path cross it is painted once.
        self.assertEqual(
            done(((CLEAR, CLEAR),), ("stroke", ((0, 0), (1, 0), (0, 0)), ("round", 0), RED, "plain", 5)),
            (((15, 0, 0, 5), (15, 0, 0, 5)),),
        )

    def test_points_outside_of_the_picture_count_for_nothing(self):
        picture = ((RED, PALE), (CLEAR, BLUE))
        far = ((0, 1, 23), (5, 0, 3), (23, 23, 23))
        for behind in (
            ("mean", 1), ("swell", 1), ("erase", 7), ("tone", (KEEP[::-1],) * 4), ("fill", BLUE, "times", 9),
        ):
            deed = (behind[0], far) + behind[1:]
            self.assertEqual(done(picture, deed), done(picture, (behind[0], ((0, 1, 1),)) + behind[1:]))
            self.assertEqual(done(picture, (behind[0], far[1:]) + behind[1:]), picture)
        self.assertEqual(done(picture, ("copy", far, -1, 1)), ((RED, PALE), (PALE, BLUE)))


class CarriersTests(unittest.TestCase):
    def test_move(self):
        picture = ((RED, BLUE), (PALE, CLEAR))
        self.assertEqual(done(picture, ("move", 0, 0)), picture)
        self.assertEqual(done(picture, ("move", 1, 0)), ((CLEAR, RED), (CLEAR, PALE)))
        self.assertEqual(done(picture, ("move", -1, 0)), ((BLUE, CLEAR), (CLEAR, CLEAR)))
        self.assertEqual(done(picture, ("move", 0, 1)), ((CLEAR, CLEAR), (RED, BLUE)))
        self.assertEqual(done(picture, ("move", 0, -1)), ((PALE, CLEAR), (CLEAR, CLEAR)))
        for right, down in ((24, 0), (0, -24), (-24, 24), (2, 0), (0, 2)):
            self.assertEqual(done(picture, ("move", right, down)), ((CLEAR, CLEAR), (CLEAR, CLEAR)))

    def test_flip_fall_and_turn(self):
        picture = ((RED, BLUE), (PALE, CLEAR))
        self.assertEqual(done(picture, ("flip",)), ((BLUE, RED), (CLEAR, PALE)))
        self.assertEqual(done(picture, ("fall",)), ((PALE, CLEAR), (RED, BLUE)))
        self.assertEqual(done(picture, ("turn",)), ((PALE, RED), (CLEAR, BLUE)))
        self.assertEqual(done(((RED, BLUE),), ("fall",)), ((RED, BLUE),))

    def test_copy(self):
        picture = ((RED, BLUE, PALE, CLEAR),)
        self.assertEqual(done(picture, ("copy", ((0, 0, 1),), 1, 0)), ((RED, RED, BLUE, CLEAR),))
        self.assertEqual(done(picture, ("copy", ((0, 0, 1),), 2, 0)), ((RED, BLUE, RED, BLUE),))
        self.assertEqual(done(picture, ("copy", ((0, 3, 3),), -3, 0)), ((CLEAR, BLUE, PALE, CLEAR),))
        self.assertEqual(done(picture, ("copy", ((0, 0, 3),), -1, 0)), ((BLUE, PALE, CLEAR, CLEAR),))
        self.assertEqual(done(picture, ("copy", ((0, 0, 3),), 0, 1)), picture)
        # Points beyond the picture are not copied, although they are clear.
        self.assertEqual(done(picture, ("copy", ((0, 4, 5),), -4, 0)), picture)
        self.assertEqual(done(picture, ("copy", ((0, 0, 3),), 10 ** 9, -10 ** 9)), picture)
        self.assertEqual(done(picture, ("copy", (), 1, 0)), picture)


class NeighboursTests(unittest.TestCase):
    def test_mean(self):
        picture = ((RED, RED, CLEAR), (BLUE, RED, CLEAR))
        self.assertEqual(done(picture, ("mean", ((0, 2, 2),), 1)), ((RED, RED, (15, 0, 0, 3)), (BLUE, RED, CLEAR)))
        # Pixels outside count as clear ones.
        self.assertEqual(done(((RED,),), ("mean", ((0, 0, 0),), 1)), (((15, 0, 0, 2),),))
        self.assertEqual(done(((RED,),), ("mean", ((0, 0, 0),), 2)), (((15, 0, 0, 1),),))
        self.assertEqual(done(((RED,),), ("mean", ((0, 0, 0),), 3)), ((CLEAR,),))
        self.assertEqual(done(((CLEAR, CLEAR),), ("mean", ((0, 0, 1),), 1)), ((CLEAR, CLEAR),))

    def test_half_a_cover_is_rounded_up(self):
        for cover, wanted in ((4, CLEAR), (5, (7, 0, 0, 1)), (13, (7, 0, 0, 1)), (14, (7, 0, 0, 2))):
            self.assertEqual(done((((7, 0, 0, cover),),), ("mean", ((0, 0, 0),), 1)), ((wanted,),))

    def test_colours_of_a_mean_count_by_their_covers(self):
        picture = (((9, 0, 2, 10), (0, 8, 3, 5), CLEAR),)
        self.assertEqual(done(picture, ("mean", ((0, 1, 1),), 1))[0][1], (6, 3, 2, 2))

    def test_swell(self):
        first, second = (1, 1, 1, 9), (2, 2, 2, 9)
        self.assertEqual(
            done(((CLEAR, first, second), (PALE, CLEAR, RED)), ("swell", ((0, 0, 2), (1, 0, 0)), 1)),
            ((first, RED, RED), (first, CLEAR, RED)),
        )
        self.assertEqual(done(((first, second),), ("swell", ((0, 0, 1),), 1)), ((first, first),))
        self.assertEqual(done(((second,), (first,)), ("swell", ((0, 0, 0), (1, 0, 0)), 1)), ((second,), (second,)))
        self.assertEqual(done(((CLEAR,),), ("swell", ((0, 0, 0),), 3)), ((CLEAR,),))

    def test_the_reach(self):
        row = ((RED,) + (CLEAR,) * 5,)
        for reach in (1, 2, 3):
            wanted = (RED,) * (reach + 1) + (CLEAR,) * (5 - reach)
            self.assertEqual(done(row, ("swell", ((0, 0, 5),), reach)), (wanted,))


class FloodTests(unittest.TestCase):
    def test_flood_region(self):
        picture = ((RED, RED, CLEAR), (BLUE, RED, CLEAR))
        self.assertEqual(flood_region(picture, (0, 0), 0), ((0, 0, 1), (1, 1, 1)))
        self.assertEqual(flood_region(picture, (0, 1), 14), ((1, 0, 0),))
        self.assertEqual(flood_region(picture, (2, 1), 0), ((0, 2, 2), (1, 2, 2)))
        self.assertEqual(flood_region(picture, (2, 1), 15), ((0, 0, 2), (1, 0, 2)))
        self.assertEqual(flood_region(((RED, CLEAR), (CLEAR, RED)), (1, 1), 14), ((1, 1, 1),))

    def test_a_start_outside_of_the_picture(self):
        picture = ((RED, RED),)
        for start in ((2, 0), (0, 1), (23, 23), (23, 0), (0, 23)):
            self.assertEqual(flood_region(picture, start, 15), ())
            self.assertEqual(done(picture, ("flood", start, BLUE, "plain", 15, 15)), picture)

    def test_flood(self):
        row = (((3, 0, 0, 9), (4, 0, 0, 9), (5, 0, 0, 9), (6, 0, 0, 9)),)
        self.assertEqual(done(row, ("flood", (1, 0), RED, "plain", 15, 1))[0], (RED, RED, RED, (6, 0, 0, 9)))
        self.assertEqual(done(row, ("flood", (1, 0), RED, "plain", 15, 0))[0][1:3], (RED, (5, 0, 0, 9)))
        self.assertEqual(done(row, ("flood", (1, 0), RED, "plain", 0, 15)), row)
        self.assertEqual(done(row, ("flood", (1, 0), CLEAR, "apart", 15, 15)), row)

    def test_plain_reading_of_the_region(self):
        maker = Maker(32)
        for k in range(80):
            colours = [maker.pixel() for _ in range(3)] + [CLEAR]
            wide, high = maker.one_of(SIDES)
            picture = tuple(tuple(maker.one_of(colours) for _ in range(wide)) for _ in range(high))
            start = (maker.number(0, min(wide, 23)), maker.number(0, min(high, 23)))
            for tolerance in (0, 15, maker.number(1, 14)):
                wanted = plain_region(plain_found(picture, start, tolerance))
                self.assertEqual(flood_region(picture, start, tolerance), wanted)


class PlainReadingTests(unittest.TestCase):
    """Every deed on many pictures, against the words of [3.2]."""

    def test_each_deed(self):
        for word in WORDS:
            maker = Maker(WORDS.index(word) + 320)
            for k in range(60):
                wide, high = SIDES[k % len(SIDES)]
                if word == "turn":
                    high = wide
                picture = maker.picture(wide, high)
                deed = maker.deed(word, wide, high)
                answer = done(picture, deed)
                self.assertEqual(answer, plain_done(picture, deed), deed)
                self.assertIsNone(check_picture(answer))
                self.assertEqual(done_all(picture, (deed,)), answer)

    def test_clear_pictures_and_full_regions(self):
        full = tuple((y, 0, 23) for y in range(24))
        maker = Maker(321)
        for word in WORDS:
            for _ in range(6):
                deed = maker.deed(word, 5, 5)
                if word in ("fill", "erase", "tone", "copy", "mean", "swell"):
                    deed = (word, full) + deed[2:]
                for picture in (((CLEAR,) * 5,) * 5, maker.picture(5, 5)):
                    self.assertEqual(done(picture, deed), plain_done(picture, deed), deed)


class RowsTests(unittest.TestCase):
    def test_one_after_another(self):
        maker = Maker(33)
        for k in range(30):
            side = maker.number(1, 6)
            picture = maker.picture(side, side)
            deeds = tuple(maker.deed(maker.one_of(WORDS), side, side) for _ in range(maker.number(0, 12)))
            wanted = picture
            for deed in deeds:
                wanted = plain_done(wanted, deed)
            self.assertEqual(done_all(picture, deeds), wanted)

    def test_the_order_counts(self):
        picture = ((RED, BLUE),)
        deeds = (("flip",), ("erase", ((0, 0, 0),), 15))
        self.assertEqual(done_all(picture, deeds), ((CLEAR, RED),))
        self.assertEqual(done_all(picture, deeds[::-1]), ((BLUE, CLEAR),))

    def test_edges(self):
        picture = ((RED, BLUE),)
        self.assertEqual(done_all(picture, ()), picture)
        self.assertEqual(done_all(picture, (("flip",),) * 40), picture)
        self.assertEqual(done_all(picture, (("flip",),) * 39), ((BLUE, RED),))


if __name__ == "__main__":
    unittest.main()
