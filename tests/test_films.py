"""[11.1] to [11.4]: films, what is seen at times, joined, cut, strung together, roots and shifts."""

import itertools
import unittest

from paintershouse.errors import Missing, NotAllowed, TooLarge
from paintershouse.films import (
    MAX_FRAMES, MAX_TIME, check_film, cut_film, joined, length_of, look_alike, looped_at, root_of, seen_at, shift_of, strung,
)
from tests.making import Maker

CLEAR = (0, 0, 0, 0)
RED, BLUE, GREEN = (((15, 0, 0, 15),),), (((0, 0, 15, 15),),), (((0, 15, 0, 15),),)
WIDE = (((15, 0, 0, 15), CLEAR),)
WRONG_FILMS = (
    (), ((RED, 0),), ((RED, -1),), ((RED, 10000),), ((RED, 1),) * 41, ((RED, 1), (WIDE, 1)), ((RED, 1), (RED * 2, 1)), (((), 1),), ((((),), 1),),
    (((((16, 0, 0, 15),),), 1),), (((((1, 0, 0, 0),),), 1),), (((((0, 0, 0),),), 1),), ((RED, 1), (BLUE, 0)), (((((0, 0, 0, 0),) * 25,), 1),),
)


def shown(film):
    """What is seen at each time."""
    return [picture for picture, time in film for _ in range(time)]


def plain_joined(pictures):
    return tuple((picture, len(list(run))) for picture, run in itertools.groupby(pictures))


def made_films(seed, many):
    maker = Maker(seed)
    for k in range(many):
        wide, high = maker.one_of(((1, 1), (2, 1), (2, 2)))
        yield maker, maker.film(wide, high, maker.number(1, 6), maker.one_of((1, 2, 4)))


def plain_root(pictures):
    """The shortest row of pictures that, looped, is the same as another one, looped."""
    for length in range(1, len(pictures) + 1):
        root = pictures[:length]
        if all(root[t % length] == pictures[t % len(pictures)] for t in range(length * len(pictures))):
            return root
    return None


def plain_shift(first, second):
    both = len(first) * len(second)
    for shift in range(len(first)):
        if all(second[t % len(second)] == first[(t + shift) % len(first)] for t in range(both)):
            return shift
    return None


class FilmTests(unittest.TestCase):
    def test_films(self):
        self.assertEqual((MAX_FRAMES, MAX_TIME), (40, 9999))
        for film in (((RED, 1),), ((RED, 9999),), ((RED, 1), (RED, 1)), ((RED, 1),) * 40, ((WIDE, 3), (WIDE, 1)), (((((1, 2, 3, 4),) * 24,) * 24, 5),)):
            self.assertIsNone(check_film(film))
            self.assertEqual(length_of(film), sum(time for _, time in film))

    def test_what_is_seen(self):
        for _, film in made_films(431, 60):
            pictures = shown(film)
            self.assertEqual(length_of(film), len(pictures))
            for time in range(3 * len(pictures) + 2):
                self.assertEqual(seen_at(film, time), pictures[time] if time < len(pictures) else None)
                self.assertEqual(looped_at(film, time), pictures[time % len(pictures)])

    def test_examples(self):
        film = ((RED, 2), (BLUE, 3), (RED, 2), (BLUE, 3))
        self.assertEqual([seen_at(film, time) for time in (0, 1, 2, 4, 5, 9)], [RED, RED, BLUE, BLUE, RED, BLUE])
        self.assertIsNone(seen_at(film, 10))
        self.assertIsNone(seen_at(film, 10 ** 9))
        self.assertEqual(looped_at(film, 10 ** 9 + 12), BLUE)

    def test_wrong_times(self):
        for time in (-1, -100):
            self.assertRaises(NotAllowed, seen_at, ((RED, 1),), time)
            self.assertRaises(NotAllowed, looped_at, ((RED, 1),), time)

    def test_wrong_films(self):
        for film in WRONG_FILMS:
            for call, told in (
                (check_film, ()), (length_of, ()), (seen_at, (0,)), (looped_at, (0,)), (joined, ()), (cut_film, (0, 1)), (root_of, ()),
            ):
                self.assertRaises(NotAllowed, call, film, *told)
            for call in (look_alike, shift_of):
                self.assertRaises(NotAllowed, call, film, ((RED, 1),))
                self.assertRaises(NotAllowed, call, ((RED, 1),), film)
            self.assertRaises(NotAllowed, strung, [film])
            self.assertRaises(NotAllowed, strung, [((RED, 1),), film])
            self.assertRaises(NotAllowed, strung, [((RED, 1),) * 40, ((RED, 1),), film])

    def test_other_sides(self):
        for other in (((WIDE, 1),), ((RED * 2, 1),)):
            for call in (look_alike, shift_of):
                self.assertRaises(NotAllowed, call, ((RED, 1),), other)
            self.assertRaises(NotAllowed, strung, [((RED, 1),), other])
            self.assertRaises(NotAllowed, strung, [((RED, 1),) * 40, ((RED, 1),), other])


class JoinedTests(unittest.TestCase):
    def test_the_plain_reading(self):
        for _, film in made_films(432, 150):
            made = joined(film)
            self.assertEqual(made, plain_joined(shown(film)))
            self.assertEqual(shown(made), shown(film))
            self.assertIsNone(check_film(made))

    def test_examples(self):
        self.assertEqual(joined(((RED, 1), (RED, 2), (BLUE, 1), (RED, 1))), ((RED, 3), (BLUE, 1), (RED, 1)))
        self.assertEqual(joined(((RED, 1),) * 40), ((RED, 40),))

    def test_times_that_are_too_great(self):
        self.assertEqual(joined(((RED, 9998), (RED, 1))), ((RED, 9999),))
        self.assertRaises(TooLarge, joined, ((RED, 9999), (RED, 1)))
        self.assertRaises(TooLarge, joined, ((BLUE, 1), (RED, 9999), (RED, 9999)))
        self.assertEqual(joined(((RED, 9999), (BLUE, 9999), (RED, 9999))), ((RED, 9999), (BLUE, 9999), (RED, 9999)))

    def test_films_look_alike_just_if_they_are_the_same_when_joined(self):
        """The theorem of [11.2]."""
        alike = 0
        maker = Maker(433)
        for _ in range(500):
            one, other = (tuple((maker.one_of((RED, BLUE)), maker.number(1, 2)) for _ in range(maker.number(1, 4))) for _ in range(2))
            wanted = shown(one) == shown(other)
            alike += wanted
            self.assertIs(look_alike(one, other), wanted)
            self.assertEqual(joined(one) == joined(other), wanted)
        self.assertGreater(alike, 15)

    def test_they_look_alike_however_great_the_times_are(self):
        film = ((RED, 9999), (RED, 9999))
        self.assertIs(look_alike(film, ((RED, 9998), (RED, 9997), (RED, 3))), True)
        self.assertIs(look_alike(film, ((RED, 9998), (RED, 9997), (RED, 2))), False)
        self.assertIs(look_alike(((RED, 9999),) * 40, ((RED, 9999),) * 40), True)
        self.assertIs(look_alike(((RED, 2),), ((RED, 1),)), False)


class CutTests(unittest.TestCase):
    def test_the_plain_reading(self):
        for _, film in made_films(434, 40):
            pictures = shown(film)
            for start, end in itertools.combinations(range(len(pictures) + 1), 2):
                made = cut_film(film, start, end)
                self.assertEqual(shown(made), pictures[start:end])
                self.assertIsNone(check_film(made))

    def test_frames_stay_as_they_are(self):
        film = ((RED, 2), (RED, 3), (BLUE, 1))
        self.assertEqual(cut_film(film, 1, 4), ((RED, 1), (RED, 2)))
        self.assertEqual(cut_film(film, 2, 5), ((RED, 3),))
        self.assertEqual(cut_film(film, 0, 6), film)
        self.assertEqual(cut_film(film, 5, 6), ((BLUE, 1),))
        self.assertEqual(cut_film(film, 4, 5), ((RED, 1),))
        self.assertEqual(cut_film(((RED, 2), (BLUE, 3), (RED, 2), (BLUE, 3)), 1, 4), ((RED, 1), (BLUE, 2)))

    def test_wrong_starts_and_ends(self):
        film = ((RED, 2), (BLUE, 3))
        for start, end in ((0, 0), (2, 2), (5, 5), (3, 2), (-1, 2), (0, 6), (5, 6), (6, 7), (-2, -1), (1, 0)):
            self.assertRaises(NotAllowed, cut_film, film, start, end)


class StrungTests(unittest.TestCase):
    def test_the_plain_reading(self):
        maker = Maker(435)
        for _ in range(60):
            films = [maker.film(2, 1, maker.number(1, 5), 3) for _ in range(maker.number(1, 5))]
            made = strung(films)
            self.assertEqual(made, tuple(frame for film in films for frame in film))
            self.assertEqual(shown(made), [picture for film in films for picture in shown(film)])

    def test_cut_and_strung_again(self):
        for _, film in made_films(436, 40):
            for at in range(1, length_of(film)):
                parts = [cut_film(film, 0, at), cut_film(film, at, length_of(film))]
                self.assertIs(look_alike(strung(parts), film), True)

    def test_nothing_and_too_much(self):
        self.assertRaises(NotAllowed, strung, [])
        self.assertEqual(len(strung([((RED, 1),) * 20, ((BLUE, 1),) * 20])), 40)
        self.assertRaises(TooLarge, strung, [((RED, 1),) * 20, ((BLUE, 1),) * 21])
        self.assertRaises(TooLarge, strung, [((RED, 1),)] * 41)
        self.assertEqual(strung([((RED, 1),)] * 40), ((RED, 1),) * 40)

    def test_the_list_stays(self):
        films = [((RED, 1),), ((BLUE, 1),)]
        strung(films)
        self.assertEqual(films, [((RED, 1),), ((BLUE, 1),)])


class RootTests(unittest.TestCase):
    def looped(self, maker, film):
        """A film told some times, cut at other places."""
        many = maker.number(1, 3)
        pictures = shown(film) * many
        frames, at = [], 0
        while at < len(pictures):
            last = at
            while last < len(pictures) and pictures[last] == pictures[at] and (last == at or maker.number(0, 2)):
                last += 1
            frames.append((pictures[at], last - at))
            at = last
        return tuple(frames)

    def films(self, seed, many):
        for maker, film in made_films(seed, many):
            told = self.looped(maker, film)
            yield maker, told if len(told) <= 40 else film

    def test_the_plain_reading_and_the_theorem(self):
        shorter = 0
        for _, film in self.films(437, 250):
            pictures = shown(film)
            root = root_of(film)
            self.assertEqual(root, plain_joined(plain_root(pictures)))
            self.assertEqual(length_of(film) % length_of(root), 0)
            shorter += length_of(root) < length_of(film)
            # Of each number of times after which the loop comes back to itself, the root's length is a divisor.
            for times in range(1, 2 * len(pictures)):
                if all(pictures[t] == pictures[(t + times) % len(pictures)] for t in range(len(pictures))):
                    self.assertEqual(times % length_of(root), 0)
        self.assertGreater(shorter, 60)

    def test_loops_told_twice_and_thrice(self):
        film = ((RED, 2), (BLUE, 3))
        for many in (1, 2, 3, 20):
            self.assertEqual(root_of(film * many), film)
        self.assertEqual(root_of(film * 2 + ((RED, 2),)), ((RED, 2), (BLUE, 3), (RED, 2), (BLUE, 3), (RED, 2)))
        self.assertEqual(root_of(((RED, 1), (BLUE, 1), (RED, 2), (BLUE, 1), (RED, 1))), ((RED, 1), (BLUE, 1), (RED, 1)))
        self.assertEqual(root_of(((RED, 1), (RED, 1), (BLUE, 2), (BLUE, 1), (RED, 2), (BLUE, 3))), film)

    def test_one_picture(self):
        self.assertEqual(root_of(((RED, 1),)), ((RED, 1),))
        self.assertEqual(root_of(((RED, 9999),) * 40), ((RED, 1),))

    def test_times_that_are_too_great(self):
        film = ((RED, 9999), (RED, 1), (BLUE, 1))
        self.assertRaises(TooLarge, root_of, film)
        self.assertRaises(TooLarge, root_of, film * 2)
        self.assertEqual(root_of(((RED, 9998), (RED, 1), (BLUE, 1))), ((RED, 9999), (BLUE, 1)))
        # Only within the loop side by side: what would be joined over its end stays apart.
        self.assertEqual(root_of(((RED, 9999), (BLUE, 1), (RED, 9999))), ((RED, 9999), (BLUE, 1), (RED, 9999)))
        self.assertEqual(root_of(((RED, 1), (BLUE, 9999), (RED, 9999)) * 2), ((RED, 1), (BLUE, 9999), (RED, 9999)))

    def test_shifts(self):
        found = missing = 0
        for maker, film in self.films(438, 300):
            pictures = shown(film)
            at = maker.number(0, len(pictures) - 1)
            if maker.number(0, 3):
                turned = plain_joined(pictures[at:] + pictures[:at])
                other = self.looped(maker, turned) if len(pictures) < 15 else turned
            else:
                other = maker.film(len(pictures[0][0]), len(pictures[0]), maker.number(1, 3), 2)
            if len(other) > 40:
                continue
            wanted = plain_shift(pictures, shown(other))
            if wanted is None:
                missing += 1
                self.assertRaises(Missing, shift_of, film, other)
            else:
                found += 1
                self.assertEqual(shift_of(film, other), wanted)
        self.assertGreater(found, 100)
        self.assertGreater(missing, 30)

    def test_shift_examples(self):
        film = ((RED, 2), (BLUE, 3), (RED, 2), (BLUE, 3))
        self.assertEqual(shift_of(film, ((BLUE, 1), (RED, 2), (BLUE, 2))), 4)
        self.assertEqual(shift_of(film, film), 0)
        self.assertEqual(shift_of(film, film[:2]), 0)
        self.assertEqual(shift_of(film[:2], film), 0)
        self.assertEqual(shift_of(film, ((BLUE, 3), (RED, 2))), 2)
        self.assertEqual(shift_of(((RED, 3),), ((RED, 5), (RED, 9999))), 0)
        for other in (((RED, 2),), ((RED, 3), (BLUE, 2)), ((RED, 4), (BLUE, 6)), ((GREEN, 2), (BLUE, 3)), ((RED, 2), (BLUE, 3), (RED, 2), (BLUE, 4))):
            self.assertRaises(Missing, shift_of, film, other)
            self.assertRaises(Missing, shift_of, other, film)
        self.assertRaises(Missing, shift_of, ((RED, 1),), ((BLUE, 1),))

    def test_great_shifts(self):
        film = ((RED, 9999), (BLUE, 9998), (GREEN, 1))
        self.assertEqual(shift_of(film, ((BLUE, 1), (GREEN, 1), (RED, 9999), (BLUE, 9997))), 9999 + 9997)
        self.assertEqual(shift_of(film * 13, film), 0)
        long = ((RED, 9999), (RED, 9999), (BLUE, 1))
        self.assertEqual(shift_of(long, ((RED, 9998), (BLUE, 1), (RED, 9999), (RED, 1))), 10000)


if __name__ == "__main__":
    unittest.main()
