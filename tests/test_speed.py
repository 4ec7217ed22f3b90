"""What is as large as the document lets it be is answered within seconds."""

import time
import unittest

from paintershouse.deeds import done_all, flood_region
from paintershouse.distances import field, gap, within
from paintershouse.errors import TooLarge
from paintershouse.exchange import conflict, least_part, needless
from paintershouse.flooding import flooded
from paintershouse.footprints import are_apart, footprint, touched
from paintershouse.forall import hidden_points, may_dissolve, may_exchange, same_for_all
from paintershouse.forgetting import twins, undoing
from paintershouse.forms import drawn_by, form_of, least_picture
from paintershouse.guesses import best_guesses
from paintershouse.layers import add_above, grouped, remove, seen
from paintershouse.leastcodes import codes_of, judge_tree, least_lengths, total_of, tree_paper
from paintershouse.menus import layers_paper, least_of_menu
from paintershouse.outlines import from_outlines, length_of, outlines
from paintershouse.rectangles import chords, crossing_paper, fewest_rectangles, judge_cut, least_by
from paintershouse.shades import behind, shade_of
from paintershouse.shelf import best_plan, best_prices, bound_of, least_work, plan_work
from paintershouse.sight import Sight
from paintershouse.smaller import smaller
from paintershouse.strokes import stroke_region
from tests.making import MODES, NAMES, Maker, plain_region

SECONDS = 5
GRID = [(x, y) for x in range(24) for y in range(24)]


def great_regions():
    maker = Maker(24)
    yield plain_region(set(GRID))
    yield plain_region({(x, y) for x, y in GRID if (x + y) % 2})
    yield plain_region({(x, y) for x, y in GRID if x % 2 or y % 2})
    yield plain_region({(x, y) for x, y in GRID if x % 3 or y % 3})
    yield plain_region({(x, y) for x, y in GRID if min(x, y, 23 - x, 23 - y) % 2 == 0})
    for percent in (50, 75, 95):
        yield plain_region(maker.points(24, 24, percent))


class SpeedTests(unittest.TestCase):
    def timed(self, call, *told, seconds=SECONDS):
        start = time.perf_counter()
        answer = call(*told)
        self.assertLess(time.perf_counter() - start, seconds, call.__name__)
        return answer

    def timed_minute(self, call, *told):
        return self.timed(call, *told, seconds=60)

    def test_great_regions(self):
        full = plain_region(set(GRID))
        for region in great_regions():
            for kind in ("rook", "king", "square"):
                self.timed(field, (24, 24), region, kind)
                self.timed(within, (24, 24), region, kind, 2)
                self.timed(gap, region, full, kind)
            self.assertEqual(self.timed(from_outlines, self.timed(outlines, region)), region)
            self.timed(length_of, region)
            self.timed(chords, region)
            cut, paper = self.timed(fewest_rectangles, region), self.timed(crossing_paper, region)
            self.assertEqual(self.timed(least_by, region, paper), len(cut))
            self.assertIs(self.timed(judge_cut, region, cut), True)

    def test_great_pictures(self):
        maker = Maker(25)
        for picture in (maker.picture(24, 24), (((1, 2, 3, 4),) * 24,) * 24):
            for ways in (4, 8):
                self.timed(flooded, picture, (12, 12), 8, ways)
            self.timed(flood_region, picture, (0, 23), 15)

    def test_rows_of_forty_deeds(self):
        maker = Maker(26)
        full = plain_region(set(GRID))
        paint = ((3, 9, 15, 8), "apart", 7)
        path = tuple((48 * (k % 2), -24 + 72 * (k // 2 % 2)) for k in range(20))
        picture = maker.picture(24, 24)
        for deed in (
            ("fill", full) + paint, ("erase", full, 3), ("tone", full, maker.tables()),
            ("stroke", path, ("square", 3)) + paint, ("move", 1, 1), ("flip",), ("fall",), ("turn",),
            ("copy", full, 1, 0), ("mean", full, 3), ("swell", full, 3), ("flood", (3, 3)) + paint + (15,),
        ):
            self.timed(done_all, picture, (deed,) * 40)

    def test_strokes_and_shades(self):
        path = tuple((48 * (k % 2), -24 + 72 * (k // 2 % 2)) for k in range(20))
        self.timed(stroke_region, path, ("square", 3))
        shade = shade_of(("erase", (), 1))
        for _ in range(40):
            shade = self.timed(behind, shade, self.timed(shade_of, ("fill", (), (3, 9, 15, 8), "screen", 7)))

    def test_forms_of_rows_of_forty_deeds(self):
        maker = Maker(31)
        sides = (24, 24)
        soft = tuple(("erase", maker.region(24, 24), maker.number(1, 3)) for _ in range(40))
        for deeds in (maker.plain_row(24, 24, 40), soft):
            form = self.timed_minute(form_of, sides, deeds)
            picture = maker.picture(24, 24)
            self.assertEqual(drawn_by(form, picture), done_all(picture, deeds))
            self.timed_minute(least_picture, sides, deeds, ())
            self.timed_minute(conflict, sides, deeds, soft[:5] + (("flip",),))
            self.timed_minute(needless, sides, deeds)
            self.timed_minute(least_part, sides, deeds[:10])
            self.timed_minute(twins, sides, deeds)
            self.timed_minute(are_apart, sides, deeds, soft)
        self.timed_minute(touched, sides, (("mean", plain_region(set(GRID)), 3),) * 40)
        self.timed_minute(footprint, sides, (("mean", plain_region(set(GRID)), 3),) * 40, (3, 3))
        self.timed_minute(undoing, sides, (("flip",),) * 40)
        menu = (("flip",), ("fall",), ("turn",), ("move", 1, 0), ("move", 0, 1), soft[0])
        self.timed_minute(layers_paper, sides, menu[:4], 5)
        self.assertRaises(TooLarge, self.timed_minute, least_of_menu, sides, menu, soft, 5)

    def full_document(self, maker, wide, high):
        """A document of 24 layers, all of them shown and masked."""
        made = []
        for k in range(24):
            mask = tuple(tuple(maker.number(1, 15) for _ in range(wide)) for _ in range(high))
            look = (1, maker.one_of(MODES), 15, mask)
            if k % 6 == 5:
                made.append(("tone", NAMES[k], look, maker.shuffled_tables()))
            else:
                made.append(("paint", NAMES[k], look, maker.picture(wide, high)))
        return (wide, high, tuple(made))

    def test_documents_of_24_layers_for_all_pictures(self):
        maker = Maker(32)
        for sides, opens in (((24, 24), ("aa",)), ((4, 4), ("aa", "ac")), ((2, 2), ("ac", "av"))):
            document = self.full_document(maker, *sides)
            for name in opens:
                self.timed_minute(hidden_points, document, opens, name)
            other = remove(document, "aw")
            same = add_above(other, "av", ("paint", "zz", (1, "times", 0, ()), maker.picture(*sides)))
            self.assertEqual(self.timed_minute(same_for_all, other, same, opens), ("same", ()))
            self.timed_minute(same_for_all, document, same, opens)
            self.timed_minute(may_exchange, document, opens, "aa")
            # At the very bottom nothing is below a group that its layers could change.
            self.assertIs(self.timed_minute(may_dissolve, grouped(other, "aa", "zz"), opens, "zz"), True)

    def test_sixty_asks_with_eight_places(self):
        maker = Maker(27)
        for pieces in (9, 13, 30, 100):
            asks = tuple(maker.number(0, pieces - 1) for _ in range(60))
            costs = tuple(piece * 97 % 10000 for piece in asks)
            plan, prices = self.timed(best_plan, asks, costs, 8), self.timed(best_prices, asks, costs, 8)
            work = self.timed(least_work, asks, costs, 8)
            self.assertEqual(self.timed(plan_work, asks, costs, 8, plan), work)
            self.assertEqual(self.timed(bound_of, asks, costs, 8, prices), work)

    def test_counts_of_600_signs(self):
        maker = Maker(28)
        for counts in ((1,) * 600, tuple(range(1, 601)), tuple(maker.number(1, 600) for _ in range(600))):
            lengths, paper = self.timed(least_lengths, counts), self.timed(tree_paper, counts)
            self.assertIs(self.timed(judge_tree, counts, lengths, paper), True)
            self.timed(total_of, counts, lengths)
            self.assertEqual(len(self.timed(codes_of, lengths)), 600)
        self.timed(codes_of, tuple(range(1, 600)) + (599,))

    def test_great_sights(self):
        maker = Maker(29)
        document, other = (maker.document(24, 24, 24) for _ in range(2))
        sight = Sight(document, 1)
        self.timed(sight.look, (0, 0, 24, 24))
        self.timed(sight.exchange, other)
        self.timed(sight.look, (0, 0, 24, 24))
        self.timed(smaller, seen(document), 8)
        self.timed(best_guesses, seen(document))


if __name__ == "__main__":
    unittest.main()
