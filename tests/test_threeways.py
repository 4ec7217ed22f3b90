"""[11.8]: three films merged, and what clashes."""

import unittest

from paintershouse.errors import Missing, NotAllowed
from paintershouse.films import check_film
from paintershouse.threeways import film_clash, merged_film
from tests.making import Maker
from tests.test_films import BLUE, GREEN, RED, WIDE, WRONG_FILMS

R, B, N = (15, 0, 0, 15), (0, 0, 15, 15), (0, 0, 0, 0)


def changed(maker, film, percent):
    """A film with other pixels at about so many percent of the points."""
    pixels = (R, B, N)
    return tuple((tuple(tuple(maker.one_of(pixels) if maker.number(0, 99) < percent else pixel for pixel in row) for row in picture), time) for picture, time in film)


def made_films(seed, many):
    maker = Maker(seed)
    for k in range(many):
        wide, high = maker.number(1, 4), maker.number(1, 3)
        base = tuple((maker.picture_of(wide, high, (R, B, N)), maker.number(1, 3)) for _ in range(maker.number(1, 3)))
        percent = maker.one_of((5, 25, 50))
        yield base, changed(maker, base, percent), changed(maker, base, percent)


class ThreeTests(unittest.TestCase):
    def test_the_plain_reading(self):
        merged = clashed = 0
        for base, first, second in made_films(451, 900):
            clash, frames = [], []
            for k, (picture, time) in enumerate(base):
                rows = []
                for y, row in enumerate(picture):
                    made = []
                    for x, pixel in enumerate(row):
                        one, other = first[k][0][y][x], second[k][0][y][x]
                        others = [there for there in (one, other) if there != pixel]
                        if len(others) == 2 and one != other:
                            clash.append((k, (x, y)))
                        made.append(others[0] if others else pixel)
                    rows.append(tuple(made))
                frames.append((tuple(rows), time))
            self.assertEqual(film_clash(base, first, second), clash)
            if clash:
                clashed += 1
                self.assertRaises(Missing, merged_film, base, first, second)
            else:
                merged += 1
                film = merged_film(base, first, second)
                self.assertEqual(film, tuple(frames))
                self.assertIsNone(check_film(film))
        self.assertGreater(min(merged, clashed), 50)

    def test_either_way(self):
        for base, first, second in made_films(452, 120):
            self.assertEqual(film_clash(base, first, second), film_clash(base, second, first))
            if not film_clash(base, first, second):
                self.assertEqual(merged_film(base, first, second), merged_film(base, second, first))
            self.assertEqual(merged_film(base, first, base), first)
            self.assertEqual(merged_film(base, base, second), second)
            self.assertEqual(merged_film(base, first, first), first)

    def test_clashes_with_the_base(self):
        base, first, second = ((RED, 1), (RED, 2)), ((BLUE, 1), (BLUE, 2)), ((BLUE, 1), (GREEN, 2))
        self.assertEqual(film_clash(base, first, second), [(1, (0, 0))])
        self.assertEqual(film_clash(base, first, base), [])
        # Both have another one than the base, but the same.
        self.assertEqual(merged_film(base, first, first), first)
        self.assertEqual(merged_film(base, ((BLUE, 1), (RED, 2)), ((RED, 1), (GREEN, 2))), ((BLUE, 1), (GREEN, 2)))

    def test_clashes_in_order(self):
        base = ((((R,) * 3,) * 2, 1),) * 2
        first, second = ((((B,) * 3,) * 2, 1),) * 2, ((((N,) * 3,) * 2, 1),) * 2
        self.assertEqual(film_clash(base, first, second), [(k, (x, y)) for k in range(2) for y in range(2) for x in range(3)])

    def test_lists_that_are_returned_are_new(self):
        base, first, second = ((RED, 1),), ((BLUE, 1),), ((GREEN, 1),)
        film_clash(base, first, second).append("more")
        self.assertEqual(film_clash(base, first, second), [(0, (0, 0))])

    def test_forty_frames(self):
        base = (((((R,) * 24,) * 24), 1),) * 40
        self.assertEqual(merged_film(base, base, base), base)


class WrongValuesTests(unittest.TestCase):
    def refused(self, *films):
        for call in (film_clash, merged_film):
            self.assertRaises(NotAllowed, call, *films)

    def test_films(self):
        good = ((RED, 1),)
        for film in WRONG_FILMS:
            self.refused(film, good, good)
            self.refused(good, film, good)
            self.refused(good, good, film)

    def test_other_sides_frames_and_times(self):
        good = ((RED, 1), (BLUE, 2))
        for other in (((WIDE, 1), (WIDE, 2)), good[:1], good + good[:1], ((RED, 1), (BLUE, 3)), ((RED, 2), (BLUE, 1)), ((RED, 3),)):
            self.refused(other, good, good)
            self.refused(good, other, good)
            self.refused(good, good, other)
        # Films that look alike, but have other frames, are not merged.
        self.refused(((RED, 2),), ((RED, 1), (RED, 1)), ((RED, 2),))
        # It is due ahead of what is missing.
        self.refused(((RED, 1),), ((BLUE, 1),), ((GREEN, 2),))


if __name__ == "__main__":
    unittest.main()
