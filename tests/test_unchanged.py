"""[0.2] and [1.1]: what is handed over stays as it is, and what is returned is new."""

import copy
import unittest

from paintershouse import errors, grown, parts, pictures, pixels, regions, texts
from tests.making import Maker

RED, NONE = (15, 0, 0, 15), (0, 0, 0, 0)
PICTURE = ((RED, NONE, RED), (NONE, RED, RED))
OTHER = ((RED, RED, RED), (NONE, NONE, RED))
RING = ((0, 0, 2), (1, 0, 0), (1, 2, 2), (2, 0, 2))
CROSS = ((-1, 0), (0, -1), (0, 0), (0, 1), (1, 0))

# A function, its arguments, and the kind of its result.
CALLS = [
    (pixels.is_pixel, (RED,), bool), (pixels.is_pixel, ((1, 2),), bool),
    (pixels.check_pixel, (RED,), None), (pixels.check_level, (15,), None), (pixels.check_mode, ("times",), None),
    (pixels.scaled, (3, 9), int), (pixels.mixed, (3, 9, 4), int), (pixels.put_together, ("screen", 3, 4), int),
    (pixels.blended, ("apart", RED, (1, 2, 3, 4), 9), tuple), (pixels.faded, (RED, 4), tuple),
    (pictures.check_size, (3, 4), None), (pictures.check_picture, (PICTURE,), None),
    (pictures.size_of, (PICTURE,), tuple), (pictures.blank, (3, 2), tuple),
    (pictures.pixel_at, (PICTURE, (0, 1)), tuple), (pictures.points_of, (3, 2), list),
    (pictures.laid, ("times", PICTURE, OTHER, 9), tuple), (pictures.cut_out, (PICTURE, -1, 1, 4, 4), tuple),
    (pictures.flipped, (PICTURE,), tuple), (pictures.turned, (PICTURE,), tuple),
    (pictures.differing, (PICTURE, OTHER), list),
    (texts.pixel_text, (RED,), str), (texts.picture_text, (PICTURE,), str),
    (texts.read_pixel, ("f00f",), tuple), (texts.read_picture, ("f00f 0000\n",), tuple),
    (regions.check_sides, ((3, 4),), None), (regions.check_region, (RING,), None),
    (regions.region_of, ([(2, 2), (0, 0), (1, 0), (2, 2)],), tuple), (regions.region_of, ([],), tuple),
    (regions.points_in, (RING,), list), (regions.size_in, (RING,), int),
    (regions.has, (RING, (0, 0)), bool), (regions.has, (RING, (1, 1)), bool),
    (regions.both, (RING, ((1, 0, 2),)), tuple), (regions.either, (RING, ((1, 0, 2),)), tuple),
    (regions.less, (RING, ((1, 0, 2),)), tuple), (regions.others, ((4, 4), RING), tuple),
    (regions.moved, ((4, 4), RING, 1, 2), tuple), (regions.flipped_region, ((4, 4), RING), tuple),
    (regions.turned_region, ((4, 4), RING), tuple),
    (parts.parts, (RING, 4), list), (parts.holes, (RING, 4), list), (parts.filled, (RING, 4), tuple),
    (parts.parts_less_holes, (RING, 4), int), (parts.join_paper, (RING, 4, (0, 0), (2, 2)), tuple),
    (parts.judge_join, (RING, 4, (0, 0), (1, 0), ("path", ((0, 0), (1, 0)))), bool),
    (parts.judge_join, (RING, 4, (0, 0), (1, 0), ("wall", RING)), bool),
    (grown.check_stencil, (CROSS,), None), (grown.grown, ((4, 4), RING, CROSS), tuple),
    (grown.shrunk, ((4, 4), RING, CROSS), tuple), (grown.opened, ((4, 4), RING, CROSS), tuple),
    (grown.closed, ((4, 4), RING, CROSS), tuple),
]


def spoil(answer):
    """Changes a list that was returned."""
    answer.reverse()
    answer.append("more")
    answer[0] = None


class UnchangedTests(unittest.TestCase):
    def test_arguments_stay(self):
        for call, arguments, _ in CALLS:
            with self.subTest(call=call.__name__):
                handed = copy.deepcopy(arguments)
                call(*handed)
                self.assertEqual(handed, arguments)

    def test_arguments_stay_when_an_error_is_raised(self):
        points = [(3, 3), (0, 0), (0, 0), (24, 0), (1, 1)]
        handed = list(points)
        self.assertRaises(errors.NotAllowed, regions.region_of, handed)
        self.assertEqual(handed, points)

    def test_a_list_that_was_handed_over_is_not_kept(self):
        handed = [(0, 0), (1, 0)]
        region = regions.region_of(handed)
        handed.append((2, 0))
        self.assertEqual(region, ((0, 0, 1),))
        self.assertEqual(regions.region_of([(0, 0), (1, 0)]), ((0, 0, 1),))

    def test_lists_that_are_returned_are_new(self):
        for call, arguments, kind in CALLS:
            if kind is list:
                with self.subTest(call=call.__name__):
                    first = call(*arguments)
                    kept = copy.deepcopy(first)
                    spoil(first)
                    second = call(*arguments)
                    self.assertIsNot(first, second)
                    self.assertEqual(second, kept)

    def test_a_changed_list_has_no_effect_on_other_calls(self):
        wanted = [call(*arguments) for call, arguments, _ in CALLS]
        for call, arguments, kind in CALLS:
            if kind is list:
                spoil(call(*arguments))
        self.assertEqual([call(*arguments) for call, arguments, _ in CALLS], wanted)


class KindsTests(unittest.TestCase):
    def assert_plain(self, value):
        """Within tuples and lists stand tuples, integers and texts alone."""
        self.assertIn(type(value), (tuple, int, str))
        if isinstance(value, tuple):
            for part in value:
                self.assert_plain(part)

    def test_kinds_of_results(self):
        for call, arguments, kind in CALLS:
            with self.subTest(call=call.__name__):
                answer = call(*arguments)
                if kind is None:
                    self.assertIsNone(answer)
                    continue
                self.assertIs(type(answer), kind)
                if kind is not bool:
                    for part in answer if kind is list else [answer]:
                        self.assert_plain(part)

    def test_the_same_call_gives_the_same_answer(self):
        maker = Maker(11)
        region = regions.region_of(sorted(maker.points(24, 24, 55)))
        for ways in (4, 8):
            self.assertEqual(parts.parts(region, ways), parts.parts(region, ways))
            self.assertEqual(parts.holes(region, ways), parts.holes(region, ways))


if __name__ == "__main__":
    unittest.main()
