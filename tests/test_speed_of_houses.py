"""What is as large as the document lets it be is answered within seconds: formats, hands, houses, few colours, films."""

import time
import unittest

from paintershouse.changes import are_prices, best_keys, best_prices, keys_cost
from paintershouse.desk import run_script
from paintershouse.dithers import carried, ordered
from paintershouse.errors import BadForm, TooLarge
from paintershouse.films import check_film, joined, root_of, shift_of
from paintershouse.formats import KINDS, code_of, least_code, read_code, seen_of, sizes_of
from paintershouse.grounds import ground, keeps_to
from paintershouse.hands import dispute, dispute_paper, judge_dispute
from paintershouse.house import House, load_house
from paintershouse.makers import made_by_deed, makers, origin
from paintershouse.merging import clash, judge_parting, merges, parting_paper
from paintershouse.palettes import best_palette, loss_of
from paintershouse.regions import points_in
from paintershouse.scales import best_scale, judge_greys, loss_by, true_greys
from paintershouse.threeways import merged_film
from paintershouse.values import read_value, value_text
from tests.making import MODES, NAMES, Maker, plain_region

SECONDS = 5
GRID = [(x, y) for x in range(24) for y in range(24)]


class SpeedTests(unittest.TestCase):
    def timed(self, call, *told):
        start = time.perf_counter()
        try:
            return call(*told)
        finally:
            self.assertLess(time.perf_counter() - start, SECONDS, call.__name__)

    def test_codes_of_all_kinds(self):
        maker = Maker(461)
        different = tuple(tuple((x % 16, y % 16, x // 16 + 2 * (y // 16), 15) for x in range(24)) for y in range(24))
        for picture in (maker.picture(24, 24), maker.picture_of(24, 24, maker.few_pixels(5)), different):
            for kind in range(len(KINDS)):
                code = self.timed(code_of, picture, kind)
                self.assertEqual(self.timed(read_code, code), (kind, picture))
            self.assertEqual(self.timed(seen_of, code), (picture, 576))
            self.assertEqual(len(self.timed(least_code, picture)), min(self.timed(sizes_of, picture)))

    def great_row(self, maker, many):
        """A row of deeds at about half of the points each, most of which leave something of what was there."""
        half = [plain_region(maker.points(24, 24, 50)) for _ in range(many)]
        return tuple(("fill", region, maker.pixel(), maker.one_of(MODES), maker.number(1, 9)) for region in half)

    def test_four_hands_of_ten_deeds(self):
        maker = Maker(462)
        for hands in (
            tuple(self.great_row(maker, 10) for _ in range(4)), tuple(maker.plain_row(24, 24, 10) for _ in range(4)),
            (self.great_row(maker, 10), (), (), self.great_row(maker, 1)), (self.great_row(maker, 10),) * 4,
        ):
            apart = points_in(self.timed(dispute, (24, 24), hands))
            for point in apart[:3]:
                paper = self.timed(dispute_paper, (24, 24), hands, point)
                self.assertIs(self.timed(judge_dispute, (24, 24), hands, paper), True)

    def test_merges_of_eight_deeds(self):
        maker = Maker(463)
        answered = 0
        for k in range(12):
            row = (maker.plain_row, maker.busy_row)[k % 2]
            first, second = row(4, 4, 8), row(4, 4, 8)
            try:
                found = self.timed(merges, (4, 4), first, second)
            except TooLarge:
                continue
            answered += 1
            if len(found) > 1:
                paper = self.timed(parting_paper, (4, 4), first, second)
                self.assertIs(self.timed(judge_parting, (4, 4), first, second, paper), True)
        self.assertGreater(answered, 2)

    def test_makers_of_forty_deeds(self):
        maker = Maker(464)
        for deeds in (self.great_row(maker, 40), maker.plain_row(24, 24, 40), (("turn",),) * 40):
            for point in ((0, 0), (12, 5), (23, 23)):
                found = self.timed(makers, (24, 24), deeds, point)
                self.timed(origin, (24, 24), deeds, point)
            for index in (0, 20, 39):
                region = self.timed(made_by_deed, (24, 24), deeds, index)
                self.assertEqual((23, 23) in points_in(region), index in found)
        self.timed(clash, (24, 24), self.great_row(maker, 40), self.great_row(maker, 40), self.great_row(maker, 40))

    def test_grounds_and_values(self):
        maker = Maker(465)
        deeds = tuple((word, plain_region(maker.points(24, 24, 50)), 3) for word in ("mean", "swell")) * 20
        self.assertIs(self.timed(keeps_to, (24, 24), deeds, self.timed(ground, (24, 24), deeds)), True)
        value = ((1234,) * 100,) * 100
        self.assertEqual(self.timed(read_value, self.timed(value_text, value)), value)
        for text in ("(" * 60000, "()" * 30000, "a" * 60000, "(" + "() " * 19999 + "a)"):
            try:
                self.timed(read_value, text)
            except BadForm:
                pass

    def test_a_house_of_sixty_documents(self):
        maker = Maker(466)
        house = House(24, 24)
        for k in range(20):
            house.change(("layer", "", ("paint", NAMES[k], (1, maker.one_of(MODES), 9, ()), maker.picture(24, 24))))
        full = plain_region(set(GRID))
        for k in range(39):
            deed = maker.one_of((("flip",), ("swell", full, 2), ("mean", full, 3), ("erase", full, 1)))
            self.timed(house.change, ("paint", NAMES[k % 20], (deed,)))
        self.assertEqual(house.many(), 60)
        other = self.timed(load_house, self.timed(house.image))
        self.assertEqual(self.timed(other.seen), self.timed(house.seen))
        self.assertEqual(other.image(), house.image())
        self.timed(house.copy)

    def test_scripts_of_a_hundred_lines(self):
        maker = Maker(467)
        layer = value_text(("layer", "", ("paint", "low", (1, "plain", 15, ()), maker.picture(24, 24))))
        ahead = ["house 24 24", "do " + layer]
        full = value_text(plain_region(set(GRID)))
        for more in (
            ["sizes", "hidden low", "smaller 2", "flood 0 0 15", "row 23", "differ 0", "layers"] * 14,
            ["do (paint low ((flip)))"] * 50 + ["undo"] * 20 + ["go 0", "go 51"] * 14,
            ["same ((flip) (fall)) | ((turn) (turn))", "exchange ((turn)) | ((flip))", "least ((turn)) | ()", "needless ((turn) (turn) (turn))"] * 24,
            [f"do (paint low ((mean {full} 3)))", f"do (paint low ((swell {full} 3)))"] * 15,
        ):
            script = "\n".join(ahead + more)
            self.assertLessEqual(len(script), 20000)
            answers = self.timed(run_script, script)
            self.assertEqual(len(answers), len(ahead + more))
            self.assertFalse({"bad", "form", "none"} & set(answers))

    def test_the_best_palette_of_fourteen(self):
        maker = Maker(468)
        picture, candidates = maker.picture(24, 24), maker.few_pixels(14)
        palette = self.timed(best_palette, picture, candidates, 8)
        self.assertEqual(len(palette), 8)
        self.timed(loss_of, picture, palette)

    def test_scales_and_dithers(self):
        maker = Maker(469)
        counts = tuple(maker.number(0, 600) for _ in range(16))
        scale = self.timed(best_scale, counts, 8)
        self.assertIs(self.timed(judge_greys, counts, 8, loss_by(counts, scale), self.timed(true_greys, counts, 8)), True)
        picture = tuple(tuple(maker.number(0, 15) for _ in range(24)) for _ in range(24))
        self.timed(ordered, picture, scale, 3)
        self.timed(carried, picture, scale)

    def test_films_of_forty_frames(self):
        maker = Maker(470)
        pictures = [maker.picture(24, 24) for _ in range(3)]
        for film in (
            tuple((maker.picture(24, 24), 9999) for _ in range(40)), tuple((pictures[k % 2], 9999 - k % 2) for k in range(40)),
            tuple((pictures[maker.number(0, 2)], maker.number(1, 200)) for _ in range(40)),
        ):
            self.timed(check_film, film)
            self.timed(root_of, film)
            self.assertEqual(self.timed(shift_of, film, film), 0)
            for limit in (576, 700, 2000, 10 ** 6):
                keys = self.timed(best_keys, film, limit)
                prices = self.timed(best_prices, film, limit)
                self.assertEqual(prices[-1], self.timed(keys_cost, film, limit, keys))
                self.assertIs(self.timed(are_prices, film, limit, prices), True)
            self.assertEqual(self.timed(merged_film, film, film, film), film)
        self.assertEqual(len(self.timed(joined, tuple((pictures[k % 2], 9999) for k in range(40)))), 40)


if __name__ == "__main__":
    unittest.main()
