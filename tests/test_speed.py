"""What is as large as the document lets it be is answered within seconds."""

import time
import unittest

from paintershouse.deeds import done_all, flood_region
from paintershouse.distances import field, gap, within
from paintershouse.flooding import flooded
from paintershouse.guesses import best_guesses
from paintershouse.layers import seen
from paintershouse.leastcodes import codes_of, judge_tree, least_lengths, total_of, tree_paper
from paintershouse.outlines import from_outlines, length_of, outlines
from paintershouse.rectangles import chords, crossing_paper, fewest_rectangles, judge_cut, least_by
from paintershouse.shades import behind, shade_of
from paintershouse.shelf import best_plan, best_prices, bound_of, least_work, plan_work
from paintershouse.sight import Sight
from paintershouse.smaller import smaller
from paintershouse.strokes import stroke_region
from tests.making import Maker, plain_region

SECONDS = 5
GRID = [(x, y) for x in range(24) for y in range(24)]


def great_regions():
    maker = Maker(24)
    yield plain_region(set(GRID))
    yield plain_region({(x, y) for x, y in GRID if (x + y) % 2})
    yield plain_region({(x, y) for x, y in GRID if x % 2 or y % 2})
    yield plain_region({(x, y) for x, y in GRID if x % 3 or y % 3})
    yield plain_region({(x, y) for x, y in GRID if min(x, y, 23 - x, 23 - y) % 2 == 0})
    for percent in (50, 75, 95):
        yield plain_region(maker.points(24, 24, percent))


class SpeedTests(unittest.TestCase):
    def timed(self, call, *told):
        start = time.perf_counter()
        answer = call(*told)
        self.assertLess(time.perf_counter() - start, SECONDS, call.__name__)
        return answer

    def test_great_regions(self):
        full = plain_region(set(GRID))
        for region in great_regions():
            for kind in ("rook", "king", "square"):
                self.timed(field, (24, 24), region, kind)
                self.timed(within, (24, 24), region, kind, 2)
                self.timed(gap, region, full, kind)
            self.assertEqual(self.timed(from_outlines, self.timed(outlines, region)), region)
            self.timed(length_of, region)
            self.timed(chords, region)
            cut, paper = self.timed(fewest_rectangles, region), self.timed(crossing_paper, region)
            self.assertEqual(self.timed(least_by, region, paper), len(cut))
            self.assertIs(self.timed(judge_cut, region, cut), True)

    def test_great_pictures(self):
        maker = Maker(25)
        for picture in (maker.picture(24, 24), (((1, 2, 3, 4),) * 24,) * 24):
            for ways in (4, 8):
                self.timed(flooded, picture, (12, 12), 8, ways)
            self.timed(flood_region, picture, (0, 23), 15)

    def test_rows_of_forty_deeds(self):
        maker = Maker(26)
        full = plain_region(set(GRID))
        paint = ((3, 9, 15, 8), "apart", 7)
        path = tuple((48 * (k % 2), -24 + 72 * (k // 2 % 2)) for k in range(20))
        picture = maker.picture(24, 24)
        for deed in (
            ("fill", full) + paint, ("erase", full, 3), ("tone", full, maker.tables()),
            ("stroke", path, ("square", 3)) + paint, ("move", 1, 1), ("flip",), ("fall",), ("turn",),
            ("copy", full, 1, 0), ("mean", full, 3), ("swell", full, 3), ("flood", (3, 3)) + paint + (15,),
        ):
            self.timed(done_all, picture, (deed,) * 40)

    def test_strokes_and_shades(self):
        path = tuple((48 * (k % 2), -24 + 72 * (k // 2 % 2)) for k in range(20))
        self.timed(stroke_region, path, ("square", 3))
        shade = shade_of(("erase", (), 1))
        for _ in range(40):
            shade = self.timed(behind, shade, self.timed(shade_of, ("fill", (), (3, 9, 15, 8), "screen", 7)))

    def test_sixty_asks_with_eight_places(self):
        maker = Maker(27)
        for pieces in (9, 13, 30, 100):
            asks = tuple(maker.number(0, pieces - 1) for _ in range(60))
            costs = tuple(piece * 97 % 10000 for piece in asks)
            plan, prices = self.timed(best_plan, asks, costs, 8), self.timed(best_prices, asks, costs, 8)
            work = self.timed(least_work, asks, costs, 8)
            self.assertEqual(self.timed(plan_work, asks, costs, 8, plan), work)
            self.assertEqual(self.timed(bound_of, asks, costs, 8, prices), work)

    def test_counts_of_600_signs(self):
        maker = Maker(28)
        for counts in ((1,) * 600, tuple(range(1, 601)), tuple(maker.number(1, 600) for _ in range(600))):
            lengths, paper = self.timed(least_lengths, counts), self.timed(tree_paper, counts)
            self.assertIs(self.timed(judge_tree, counts, lengths, paper), True)
            self.timed(total_of, counts, lengths)
            self.assertEqual(len(self.timed(codes_of, lengths)), 600)
        self.timed(codes_of, tuple(range(1, 600)) + (599,))

    def test_great_sights(self):
        maker = Maker(29)
        document, other = (maker.document(24, 24, 24) for _ in range(2))
        sight = Sight(document, 1)
        self.timed(sight.look, (0, 0, 24, 24))
        self.timed(sight.exchange, other)
        self.timed(sight.look, (0, 0, 24, 24))
        self.timed(smaller, seen(document), 8)
        self.timed(best_guesses, seen(document))


if __name__ == "__main__":
    unittest.main()
