"""The errors of the interface, and the names that stand in each file."""

import importlib
import unittest

from paintershouse import errors

INTERFACE = {
    "errors": ["PaintError", "NotAllowed", "TooLarge", "Missing", "BadPaper", "BadForm"],
    "pixels": [
        "is_pixel", "check_pixel", "check_level", "check_mode", "scaled", "mixed", "put_together",
        "blended", "faded",
    ],
    "pictures": [
        "check_size", "check_picture", "size_of", "blank", "pixel_at", "points_of", "laid",
        "cut_out", "flipped", "turned", "differing",
    ],
    "texts": ["pixel_text", "picture_text", "read_pixel", "read_picture"],
    "regions": [
        "check_sides", "check_region", "region_of", "points_in", "size_in", "has", "both", "either",
        "less", "others", "moved", "flipped_region", "turned_region",
    ],
    "parts": ["parts", "holes", "filled", "parts_less_holes", "join_paper", "judge_join"],
    "grown": ["check_stencil", "grown", "shrunk", "opened", "closed"],
    "distances": ["field", "within", "gap"],
    "outlines": ["outlines", "from_outlines", "area_of", "length_of"],
    "rectangles": ["fewest_rectangles", "crossing_paper", "least_by", "judge_cut", "chords"],
    "flooding": ["step_between", "flooded"],
    "strokes": ["check_path", "check_brush", "line_points", "stroke_region"],
    "deeds": ["check_deed", "check_row", "flood_region", "done", "done_all"],
    "shades": ["shade_of", "shaded", "behind", "fixed_pixel"],
    "forms": ["check_plain", "form_of", "drawn_by", "form_behind", "least_picture"],
    "exchange": ["conflict", "may_exchange", "one_deed", "needless", "least_part"],
    "footprints": ["footprint", "touched", "are_apart"],
    "forgetting": ["kept_points", "twins", "are_twins", "undoing"],
    "menus": ["least_of_menu", "layers_paper", "judge_layers"],
    "layers": [
        "check_document", "seen", "over_all", "names_of", "layer", "add_above", "remove", "replace", "look_of",
        "grouped", "flattened",
    ],
    "opened": ["check_open", "filled", "pixel_seen"],
    "forall": [
        "same_for_all", "judge_difference", "hidden_points", "sight_paper", "exchanged_above", "dissolved",
        "may_exchange", "may_dissolve", "joined_above",
    ],
    "tiles": ["tiles_of", "tile_points", "tiles_in", "asks_of"],
    "sight": ["has_there", "touched", "Sight"],
    "smaller": ["mean_of", "smaller"],
    "shelf": ["least_work", "best_plan", "best_prices", "plan_work", "bound_of"],
    "bits": ["number_bits", "gamma", "pixel_bits", "check_bits", "BitReader"],
    "leastcodes": ["least_lengths", "total_of", "tree_paper", "judge_tree", "codes_of"],
    "guesses": ["folded", "unfolded", "guessed", "best_guesses", "pass_points"],
    "formats": ["code_of", "sizes_of", "least_code", "read_code", "seen_of"],
    "hands": ["dispute", "do_agree", "dispute_paper", "judge_dispute"],
    "merging": ["merges", "are_settled", "parting_paper", "judge_parting", "clash", "merged"],
    "makers": ["makers", "made_by_deed", "origin"],
    "rebasing": ["carried_over", "rebased"],
    "grounds": ["keeps_to", "ground"],
    "values": ["value_text", "read_value"],
    "house": ["House", "load_house"],
    "desk": ["run_script"],
    "palettes": ["check_palette", "distance_of", "nearest", "reduced", "loss_of", "best_palette"],
    "scales": [
        "check_grey", "check_scale", "check_counts", "counts_of_levels", "loss_by", "best_scale", "true_greys", "judge_greys",
    ],
    "dithers": ["thresholds", "ordered", "carried"],
    "films": [
        "check_film", "length_of", "seen_at", "looped_at", "joined", "look_alike", "cut_film", "strung", "root_of", "shift_of",
    ],
    "changes": ["change_cost", "works_of", "keys_cost", "best_keys", "best_prices", "are_prices"],
    "threeways": ["film_clash", "merged_film"],
}

METHODS = {
    ("sight", "Sight"): ["look", "exchange", "work", "made", "copy"],
    ("bits", "BitReader"): ["number", "gamma", "pixel", "left"],
    ("house", "House"): [
        "change", "undo", "redo", "go", "now", "many", "document", "change_of", "seen", "mark", "unmark", "marked", "copy", "image",
    ],
}

CONSTANTS = {
    "pixels": {
        "MAX_LEVEL": 15,
        "CLEAR": (0, 0, 0, 0),
        "MODES": ("plain", "darker", "lighter", "times", "screen", "apart"),
    },
    "pictures": {"MAX_SIDE": 24},
    "texts": {"MAX_TEXT": 4000},
    "grown": {"MAX_REACH": 4},
    "strokes": {"MAX_PATH": 20, "MAX_REACH": 3, "SHAPES": ("round", "square")},
    "deeds": {
        "MAX_DEEDS": 40,
        "MAX_NEAR": 3,
        "POINTWISE": ("fill", "erase", "tone", "stroke"),
        "CARRIERS": ("move", "flip", "fall", "turn", "copy"),
        "NEIGHBOURS": ("mean", "swell"),
        "SEEKERS": ("flood",),
    },
    "shades": {
        "PLAIN_SHADE": (tuple(range(16)), (((0,) * 16,) + (tuple(range(16)),) * 15,) * 3),
    },
    "exchange": {"MAX_PARTS": 10},
    "menus": {"MAX_MENU": 6, "MAX_STEPS": 5, "MAX_FORMS": 200},
    "layers": {"MAX_ITEMS": 24, "MAX_NESTED": 4, "MAX_WORD": 8, "KINDS": ("paint", "group", "tone")},
    "smaller": {"MAX_SMALLER": 8},
    "shelf": {"MAX_ASKS": 60, "MAX_PIECE": 99, "MAX_PLACES": 8},
    "leastcodes": {"MAX_SIGNS": 600},
    "formats": {"MAX_BITS": 24000, "KINDS": ("plain", "runs", "table", "coded", "rows", "passes")},
    "hands": {"MAX_HANDS": 4},
    "merging": {"MAX_MERGES": 40},
    "rebasing": {"MOVERS": ("flip", "fall", "turn", "move")},
    "values": {"MAX_VALUE": 60000, "MAX_NESTED": 12},
    "house": {"MAX_NODES": 60, "MAX_IMAGE": 200000},
    "desk": {"MAX_SCRIPT": 20000, "MAX_LINES": 100},
    "palettes": {"MAX_PALETTE": 8, "MAX_CANDIDATES": 14},
    "dithers": {"MAX_ORDER": 3},
    "films": {"MAX_FRAMES": 40, "MAX_TIME": 9999},
}


class ErrorTests(unittest.TestCase):
    def test_base_class(self):
        self.assertEqual(errors.PaintError.__bases__, (ValueError,))

    def test_each_error_stands_directly_under_it(self):
        for name in INTERFACE["errors"][1:]:
            with self.subTest(name=name):
                self.assertEqual(getattr(errors, name).__bases__, (errors.PaintError,))

    def test_plain_errors_take_words(self):
        for name in ("NotAllowed", "TooLarge", "Missing", "BadPaper"):
            with self.assertRaises(errors.PaintError):
                raise getattr(errors, name)("words")

    def test_bad_form_has_its_line(self):
        for line in (0, 1, 25):
            error = errors.BadForm(line)
            self.assertIs(type(error.line), int)
            self.assertEqual(error.line, line)


class InterfaceTests(unittest.TestCase):
    def test_each_name_is_defined_in_its_own_file(self):
        for file, names in INTERFACE.items():
            module = importlib.import_module("paintershouse." + file)
            for name in names:
                with self.subTest(file=file, name=name):
                    self.assertEqual(getattr(module, name).__module__, module.__name__)

    def test_each_method_stands_in_its_own_class(self):
        for (file, name), methods in METHODS.items():
            module = importlib.import_module("paintershouse." + file)
            for method in ["__init__"] + methods:
                with self.subTest(name=name, method=method):
                    self.assertIn(method, vars(getattr(module, name)))

    def test_constants(self):
        for file, values in CONSTANTS.items():
            module = importlib.import_module("paintershouse." + file)
            for name, value in values.items():
                with self.subTest(file=file, name=name):
                    self.assertEqual(getattr(module, name), value)
                    self.assertIs(type(getattr(module, name)), type(value))


if __name__ == "__main__":
    unittest.main()
