"""[0.2] and [1.1]: what is handed over stays as it is, and what is returned is new."""

import copy
import unittest

from paintershouse import (
    bits, changes, deeds, desk, distances, dithers, errors, exchange, films, flooding, footprints, forall, forgetting,
    formats, forms, grounds, grown, guesses, hands, house, layers, leastcodes, makers, menus, merging, opened, outlines,
    palettes, parts, pictures, pixels, rebasing, rectangles, regions, scales, shades, shelf, sight, smaller, strokes,
    texts, threeways, tiles, values,
)
from tests.making import Maker

RED, NONE = (15, 0, 0, 15), (0, 0, 0, 0)
PICTURE = ((RED, NONE, RED), (NONE, RED, RED))
OTHER = ((RED, RED, RED), (NONE, NONE, RED))
RING = ((0, 0, 2), (1, 0, 0), (1, 2, 2), (2, 0, 2))
CROSS = ((-1, 0), (0, -1), (0, 0), (0, 1), (1, 0))
PLUS = ((0, 1, 1), (1, 0, 2), (2, 1, 1))
PAPER = ((((1, 1), (2, 1)), ((1, 1), (1, 2))),)
PATH = ((-2, 0), (2, 1), (2, 5))
PAINT = ((0, 9, 15, 9), "screen", 8)
TABLES = (tuple(range(15, -1, -1)),) * 4
DEEDS = (
    ("fill", RING) + PAINT, ("erase", RING, 3), ("tone", RING, TABLES), ("stroke", PATH, ("round", 1)) + PAINT,
    ("move", 1, -1), ("flip",), ("fall",), ("copy", RING, 1, 0), ("mean", RING, 2), ("swell", RING, 1),
    ("flood", (0, 0)) + PAINT + (2,),
)
LOOK = (1, "plain", 15, ())
LAYER = ("paint", "low", LOOK, PICTURE)
GROUP = ("group", "all", (1, "times", 9, ((1, 2, 3), (4, 5, 6))), (LAYER, ("tone", "tone", LOOK, TABLES)))
DOCUMENT = (3, 2, (("paint", "under", LOOK, OTHER), GROUP))
OTHER_DOCUMENT = layers.remove(DOCUMENT, "tone")
OPENS = ("under", "low")
PAPER_OF_DIFFERENCE = ((0, 0), (RED, RED))
PLAIN_DEEDS, SIDES = DEEDS[:4] + DEEDS[5:8], (3, 2)
MENU = (("flip",), ("fall",))
FORM = forms.form_of(SIDES, DEEDS[:2])
TONE = ("tone", RING, (tuple(range(15, -1, -1)),) * 3 + (tuple(range(16)),))
ASKS, COSTS = (1, 2, 3, 1, 2), (5, 3, 1, 5, 3)
HANDS = (PLAIN_DEEDS, MENU, ())
POINTS_APART = regions.points_in(hands.dispute(SIDES, HANDS))
CODE = formats.code_of(PICTURE, 5)
VALUE = ("group", "top", "", (7, -3, ()))
PALETTE = (NONE, (3, 4, 5, 6), RED)
GREY = ((0, 3, 15), (9, 9, 2))
COUNTS = scales.counts_of_levels(GREY)
FILM = ((PICTURE, 2), (PICTURE, 1), (OTHER, 3))
BASE_FILM, OTHER_FILM = ((PICTURE, 2), (PICTURE, 1), (PICTURE, 3)), ((OTHER, 2), (PICTURE, 1), (OTHER, 3))
SCRIPT = "house 2 1\nnow\nodd\nsame () | ()"


def made_house():
    made = house.House(3, 2)
    made.change(("layer", "", GROUP))
    made.mark("best")
    return made


IMAGE = made_house().image()

# A function, its arguments, and the kind of its result.
CALLS = [
    (pixels.is_pixel, (RED,), bool), (pixels.is_pixel, ((1, 2),), bool),
    (pixels.check_pixel, (RED,), None), (pixels.check_level, (15,), None), (pixels.check_mode, ("times",), None),
    (pixels.scaled, (3, 9), int), (pixels.mixed, (3, 9, 4), int), (pixels.put_together, ("screen", 3, 4), int),
    (pixels.blended, ("apart", RED, (1, 2, 3, 4), 9), tuple), (pixels.faded, (RED, 4), tuple),
    (pictures.check_size, (3, 4), None), (pictures.check_picture, (PICTURE,), None),
    (pictures.size_of, (PICTURE,), tuple), (pictures.blank, (3, 2), tuple),
    (pictures.pixel_at, (PICTURE, (0, 1)), tuple), (pictures.points_of, (3, 2), list),
    (pictures.laid, ("times", PICTURE, OTHER, 9), tuple), (pictures.cut_out, (PICTURE, -1, 1, 4, 4), tuple),
    (pictures.flipped, (PICTURE,), tuple), (pictures.turned, (PICTURE,), tuple),
    (pictures.differing, (PICTURE, OTHER), list),
    (texts.pixel_text, (RED,), str), (texts.picture_text, (PICTURE,), str),
    (texts.read_pixel, ("f00f",), tuple), (texts.read_picture, ("f00f 0000\n",), tuple),
    (regions.check_sides, ((3, 4),), None), (regions.check_region, (RING,), None),
    (regions.region_of, ([(2, 2), (0, 0), (1, 0), (2, 2)],), tuple), (regions.region_of, ([],), tuple),
    (regions.points_in, (RING,), list), (regions.size_in, (RING,), int),
    (regions.has, (RING, (0, 0)), bool), (regions.has, (RING, (1, 1)), bool),
    (regions.both, (RING, ((1, 0, 2),)), tuple), (regions.either, (RING, ((1, 0, 2),)), tuple),
    (regions.less, (RING, ((1, 0, 2),)), tuple), (regions.others, ((4, 4), RING), tuple),
    (regions.moved, ((4, 4), RING, 1, 2), tuple), (regions.flipped_region, ((4, 4), RING), tuple),
    (regions.turned_region, ((4, 4), RING), tuple),
    (parts.parts, (RING, 4), list), (parts.holes, (RING, 4), list), (parts.filled, (RING, 4), tuple),
    (parts.parts_less_holes, (RING, 4), int), (parts.join_paper, (RING, 4, (0, 0), (2, 2)), tuple),
    (parts.judge_join, (RING, 4, (0, 0), (1, 0), ("path", ((0, 0), (1, 0)))), bool),
    (parts.judge_join, (RING, 4, (0, 0), (1, 0), ("wall", RING)), bool),
    (grown.check_stencil, (CROSS,), None), (grown.grown, ((4, 4), RING, CROSS), tuple),
    (grown.shrunk, ((4, 4), RING, CROSS), tuple), (grown.opened, ((4, 4), RING, CROSS), tuple),
    (grown.closed, ((4, 4), RING, CROSS), tuple),
    (distances.field, ((4, 4), RING, "square"), tuple), (distances.within, ((4, 4), RING, "rook", 1), tuple),
    (distances.gap, (RING, PLUS, "king"), int),
    (outlines.outlines, (RING,), tuple), (outlines.from_outlines, (outlines.outlines(RING),), tuple),
    (outlines.area_of, (outlines.outlines(RING)[1],), int), (outlines.length_of, (RING,), int),
    (rectangles.fewest_rectangles, (PLUS,), tuple), (rectangles.crossing_paper, (PLUS,), tuple),
    (rectangles.least_by, (PLUS, PAPER), int), (rectangles.judge_cut, (RING, ((0, 0, 3, 3),)), bool),
    (rectangles.judge_cut, (PLUS, rectangles.fewest_rectangles(PLUS)), bool), (rectangles.chords, (PLUS,), list),
    (flooding.step_between, (RED, (1, 2, 3, 4)), int), (flooding.flooded, (PICTURE, (0, 0), 3, 8), tuple),
    (strokes.check_path, (PATH,), None), (strokes.check_brush, (("round", 3),), None),
    (strokes.line_points, ((0, 0), (5, -2)), list), (strokes.line_points, ((1, 1), (1, 1)), list),
    (strokes.stroke_region, (PATH, ("square", 1)), tuple),
    (deeds.check_row, (DEEDS,), None), (deeds.flood_region, (PICTURE, (0, 0), 2), tuple),
    (deeds.done_all, (PICTURE, DEEDS), tuple), (deeds.done_all, (PICTURE, ()), tuple),
    (shades.shade_of, (DEEDS[2],), tuple), (shades.shaded, (shades.PLAIN_SHADE, RED), tuple),
    (shades.behind, (shades.shade_of(DEEDS[0]), shades.shade_of(DEEDS[1])), tuple),
    (shades.fixed_pixel, (shades.shade_of(("erase", (), 15)),), tuple),
    (shades.fixed_pixel, (shades.PLAIN_SHADE,), None),
    (forms.check_plain, (SIDES, PLAIN_DEEDS), None), (forms.form_of, (SIDES, PLAIN_DEEDS), tuple),
    (forms.drawn_by, (FORM, PICTURE), tuple), (forms.form_behind, (FORM, FORM), tuple),
    (forms.least_picture, (SIDES, PLAIN_DEEDS, MENU), tuple),
    (exchange.conflict, (SIDES, PLAIN_DEEDS, MENU), tuple), (exchange.may_exchange, (SIDES, PLAIN_DEEDS, MENU), bool),
    (exchange.one_deed, (SIDES, DEEDS[2:3]), tuple), (exchange.needless, (SIDES, MENU + MENU), list),
    (exchange.least_part, (SIDES, PLAIN_DEEDS), tuple),
    (footprints.footprint, (SIDES, DEEDS, (1, 1)), tuple), (footprints.touched, (SIDES, DEEDS), tuple),
    (footprints.are_apart, (SIDES, DEEDS, MENU), bool),
    (forgetting.kept_points, (SIDES, PLAIN_DEEDS), tuple), (forgetting.twins, (SIDES, PLAIN_DEEDS), tuple),
    (forgetting.are_twins, (SIDES, PLAIN_DEEDS, PICTURE, OTHER), bool), (forgetting.undoing, (SIDES, MENU + (TONE,)), tuple),
    (menus.least_of_menu, (SIDES, MENU, MENU[::-1], 3), tuple), (menus.layers_paper, (SIDES, MENU, 2), tuple),
    (menus.judge_layers, (SIDES, MENU, PLAIN_DEEDS, menus.layers_paper(SIDES, MENU, 2)), bool),
    (opened.check_open, (DOCUMENT, OPENS), None), (opened.filled, (DOCUMENT, OPENS, (PICTURE, OTHER)), tuple),
    (opened.pixel_seen, (DOCUMENT, OPENS, (1, 1), (RED, NONE)), tuple),
    (forall.same_for_all, (DOCUMENT, OTHER_DOCUMENT, OPENS), tuple),
    (forall.judge_difference, (DOCUMENT, OTHER_DOCUMENT, OPENS, PAPER_OF_DIFFERENCE), bool),
    (forall.hidden_points, (DOCUMENT, OPENS, "low"), list), (forall.sight_paper, (DOCUMENT, OPENS, "low", (1, 1)), tuple),
    (forall.exchanged_above, (DOCUMENT, "low"), tuple), (forall.dissolved, (DOCUMENT, "all"), tuple),
    (forall.may_exchange, (DOCUMENT, OPENS, "low"), bool), (forall.may_dissolve, (DOCUMENT, OPENS, "all"), bool),
    (forall.joined_above, ((3, 2, (LAYER, ("paint", "top", LOOK, OTHER))), "low"), tuple),
    (layers.check_document, (DOCUMENT,), None), (layers.seen, (DOCUMENT,), tuple),
    (layers.over_all, (PICTURE, DOCUMENT[2]), tuple), (layers.names_of, (DOCUMENT,), list),
    (layers.layer, (DOCUMENT, "tone"), tuple), (layers.remove, (DOCUMENT, "low"), tuple),
    (layers.add_above, (DOCUMENT, "low", ("paint", "more", LOOK, OTHER)), tuple),
    (layers.replace, (DOCUMENT, "all", ("paint", "more", LOOK, OTHER)), tuple),
    (layers.look_of, (DOCUMENT, "all", LOOK), tuple), (layers.grouped, (DOCUMENT, "all", "more"), tuple),
    (layers.flattened, (DOCUMENT, "all"), tuple),
    (tiles.tiles_of, (5, 3, 2), list), (tiles.tile_points, (5, 3, 2, (1, 1)), list),
    (tiles.tiles_in, (5, 3, 2, (3, -1, 9, 2)), list), (tiles.asks_of, (5, 3, 2, [(0, 0, 2, 2), (1, 0, 2, 3)]), tuple),
    (sight.has_there, (DOCUMENT, (2, 1)), tuple), (sight.touched, (DOCUMENT, (3, 2, (LAYER,)), 1), list),
    (smaller.mean_of, ([RED, NONE, (1, 2, 3, 4)],), tuple), (smaller.smaller, (PICTURE, 2), tuple),
    (shelf.least_work, (ASKS, COSTS, 2), int), (shelf.best_plan, (ASKS, COSTS, 2), tuple),
    (shelf.best_prices, (ASKS, COSTS, 2), tuple), (shelf.plan_work, (ASKS, COSTS, 2, (1, 0, 0, 0, 0)), int),
    (shelf.bound_of, (ASKS, COSTS, 2, (0, 3, 0, 0, 0)), int),
    (bits.number_bits, (5, 4), str), (bits.gamma, (5,), str), (bits.pixel_bits, (RED,), str),
    (bits.check_bits, ("10110",), str),
    (leastcodes.least_lengths, ((5, 1, 2),), tuple), (leastcodes.total_of, ((5, 1, 2), (1, 2, 2)), int),
    (leastcodes.tree_paper, ((5, 1, 2),), tuple), (leastcodes.codes_of, ((1, 2, 2),), tuple),
    (leastcodes.judge_tree, ((5, 1, 2), (1, 2, 2), leastcodes.tree_paper((5, 1, 2))), bool),
    (leastcodes.judge_tree, ((5, 1, 2), (1, 2, 2), ()), bool),
    (guesses.folded, (-3,), int), (guesses.unfolded, (5,), int), (guesses.guessed, (4, RED, NONE, RED), tuple),
    (guesses.best_guesses, (PICTURE,), list), (guesses.pass_points, (9, 3, 2), list),
    (formats.code_of, (PICTURE, 3), str), (formats.sizes_of, (PICTURE,), list), (formats.least_code, (PICTURE,), str),
    (formats.read_code, (CODE,), tuple), (formats.seen_of, (CODE[:50],), tuple),
    (hands.dispute, (SIDES, HANDS), tuple), (hands.do_agree, (SIDES, HANDS), bool),
    (hands.dispute_paper, (SIDES, HANDS, POINTS_APART[0]), tuple),
    (hands.judge_dispute, (SIDES, HANDS, ((0, 1, 2), (1, 0, 2), PICTURE, (0, 0))), bool),
    (merging.merges, (SIDES, MENU, PLAIN_DEEDS[:2]), list), (merging.are_settled, (SIDES, MENU, MENU), bool),
    (merging.parting_paper, (SIDES, MENU, PLAIN_DEEDS[:2]), tuple),
    (merging.judge_parting, (SIDES, MENU, MENU, ((0, 0, 1, 1), (1, 1, 0, 0), PICTURE)), bool),
    (merging.clash, (SIDES, MENU, PLAIN_DEEDS, MENU), tuple), (merging.merged, (SIDES, PLAIN_DEEDS, MENU, MENU), tuple),
    (makers.makers, (SIDES, PLAIN_DEEDS, (1, 1)), list), (makers.made_by_deed, (SIDES, PLAIN_DEEDS, 0), tuple),
    (makers.origin, (SIDES, MENU, (1, 1)), tuple), (makers.origin, (SIDES, (("move", 3, 0),), (1, 1)), None),
    (rebasing.carried_over, (SIDES, DEEDS[3], ("flip",)), tuple), (rebasing.rebased, (SIDES, DEEDS[:4], MENU), tuple),
    (grounds.keeps_to, (SIDES, DEEDS, ((0, 0, 2),)), bool), (grounds.ground, (SIDES, DEEDS[:4]), tuple),
    (values.value_text, (VALUE,), str), (values.read_value, ("(group top _ (7 -3))",), tuple),
    (values.read_value, ("-5",), int), (values.read_value, ("_",), str),
    (desk.run_script, (SCRIPT,), list),
    (palettes.check_palette, (PALETTE,), None), (palettes.distance_of, (RED, NONE), int),
    (palettes.nearest, (PALETTE, (1, 2, 3, 4)), tuple), (palettes.reduced, (PICTURE, PALETTE), tuple),
    (palettes.loss_of, (PICTURE, PALETTE), int), (palettes.best_palette, (PICTURE, PALETTE, 2), tuple),
    (scales.check_grey, (GREY,), None), (scales.check_scale, ((0, 9),), None), (scales.check_counts, (COUNTS,), None),
    (scales.counts_of_levels, (GREY,), tuple), (scales.loss_by, (COUNTS, (0, 9)), int), (scales.best_scale, (COUNTS, 3), tuple),
    (scales.true_greys, (COUNTS, 3), tuple), (scales.judge_greys, (COUNTS, 3, 5, scales.true_greys(COUNTS, 3)), bool),
    (dithers.thresholds, (2,), tuple), (dithers.ordered, (GREY, (0, 9), 1), tuple), (dithers.carried, (GREY, (0, 9)), tuple),
    (films.check_film, (FILM,), None), (films.length_of, (FILM,), int), (films.seen_at, (FILM, 4), tuple),
    (films.seen_at, (FILM, 6), None), (films.looped_at, (FILM, 6), tuple), (films.joined, (FILM,), tuple),
    (films.look_alike, (FILM, FILM), bool), (films.cut_film, (FILM, 1, 4), tuple), (films.strung, ([FILM, FILM],), tuple),
    (films.root_of, (FILM,), tuple), (films.shift_of, (FILM, FILM), int),
    (changes.change_cost, (PICTURE, OTHER), int), (changes.works_of, (FILM, (0, 2)), list),
    (changes.keys_cost, (FILM, 20, (0, 2)), int), (changes.best_keys, (FILM, 9), tuple), (changes.best_prices, (FILM, 9), tuple),
    (changes.are_prices, (FILM, 9, (0, 1, 2, 3)), bool),
    (threeways.film_clash, (BASE_FILM, FILM, OTHER_FILM), list), (threeways.merged_film, (BASE_FILM, FILM, BASE_FILM), tuple),
]
CALLS += [(deeds.check_deed, (deed,), None) for deed in DEEDS]
CALLS += [(deeds.done, (PICTURE, deed), tuple) for deed in DEEDS]


def spoil(answer):
    """Changes a list that was returned."""
    answer.reverse()
    answer.append("more")
    answer[0] = None


class UnchangedTests(unittest.TestCase):
    def test_arguments_stay(self):
        for call, arguments, _ in CALLS:
            with self.subTest(call=call.__name__):
                handed = copy.deepcopy(arguments)
                call(*handed)
                self.assertEqual(handed, arguments)

    def test_arguments_stay_when_an_error_is_raised(self):
        points = [(3, 3), (0, 0), (0, 0), (24, 0), (1, 1)]
        handed = list(points)
        self.assertRaises(errors.NotAllowed, regions.region_of, handed)
        self.assertEqual(handed, points)

    def test_a_list_that_was_handed_over_is_not_kept(self):
        handed = [(0, 0), (1, 0)]
        region = regions.region_of(handed)
        handed.append((2, 0))
        self.assertEqual(region, ((0, 0, 1),))
        self.assertEqual(regions.region_of([(0, 0), (1, 0)]), ((0, 0, 1),))

    def test_lists_that_are_returned_are_new(self):
        for call, arguments, kind in CALLS:
            if kind is list:
                with self.subTest(call=call.__name__):
                    first = call(*arguments)
                    kept = copy.deepcopy(first)
                    spoil(first)
                    second = call(*arguments)
                    self.assertIsNot(first, second)
                    self.assertEqual(second, kept)

    def test_a_changed_list_has_no_effect_on_other_calls(self):
        wanted = [call(*arguments) for call, arguments, _ in CALLS]
        for call, arguments, kind in CALLS:
            if kind is list:
                spoil(call(*arguments))
        self.assertEqual([call(*arguments) for call, arguments, _ in CALLS], wanted)


class HouseTests(unittest.TestCase):
    def test_kinds_of_results(self):
        made = made_house()
        wanted = [
            (made.now, (), int), (made.many, (), int), (made.document, (1,), tuple), (made.change_of, (1,), tuple), (made.seen, (), tuple),
            (made.marked, (), list), (made.image, (), str), (made.copy, (), house.House), (made.undo, (), None), (made.redo, (), None),
            (made.go, (0,), tuple), (made.mark, ("more",), None), (made.unmark, ("more",), None), (made.change, (("layer", "", GROUP),), int),
        ]
        for call, told, kind in wanted:
            answer = call(*told)
            if kind is None:
                self.assertIsNone(answer)
            else:
                self.assertIs(type(answer), kind)
        self.assertIs(type(house.load_house(IMAGE)), house.House)

    def test_what_was_handed_stays(self):
        change = ("layer", "", GROUP)
        handed = copy.deepcopy(change)
        made = made_house()
        made.go(0)
        made.change(handed)
        made.change(("remove", "all"))
        self.assertEqual(handed, change)
        self.assertEqual(made.change_of(2), (0, change))

    def test_lists_that_are_returned_are_new(self):
        made = made_house()
        spoil(made.marked())
        self.assertEqual(made.marked(), [("best", 1)])
        self.assertEqual(made.image(), IMAGE)


class KindsTests(unittest.TestCase):
    def assert_plain(self, value):
        """Within tuples and lists stand tuples, integers and texts alone."""
        self.assertIn(type(value), (tuple, int, str))
        if isinstance(value, tuple):
            for part in value:
                self.assert_plain(part)

    def test_kinds_of_results(self):
        for call, arguments, kind in CALLS:
            with self.subTest(call=call.__name__):
                answer = call(*arguments)
                if kind is None:
                    self.assertIsNone(answer)
                    continue
                self.assertIs(type(answer), kind)
                if kind is not bool:
                    for part in answer if kind is list else [answer]:
                        self.assert_plain(part)

    def test_the_same_call_gives_the_same_answer(self):
        maker = Maker(11)
        region = regions.region_of(sorted(maker.points(24, 24, 55)))
        for ways in (4, 8):
            self.assertEqual(parts.parts(region, ways), parts.parts(region, ways))
            self.assertEqual(parts.holes(region, ways), parts.holes(region, ways))


if __name__ == "__main__":
    unittest.main()
