"""Every example of the interface and of README.md, with the answers that are written there."""

import doctest
import re
import unittest
from pathlib import Path

from paintershouse import errors

# The examples of one file go on with the names of those ahead of it.
EXAMPLES = [
    ("pixels", """
>>> from paintershouse.pixels import blended, faded, mixed, put_together, scaled
>>> scaled(7, 8), mixed(2, 12, 5), put_together("screen", 6, 9), put_together("apart", 3, 10)
(4, 5, 11, 7)
>>> blended("plain", (0, 15, 0, 15), (15, 0, 0, 15), 8), blended("times", (8, 8, 8, 10), (4, 15, 0, 6), 15), faded((1, 2, 3, 9), 5)
((8, 7, 0, 15), (6, 9, 4, 12), (1, 2, 3, 6))
"""),
    ("pictures", """
>>> from paintershouse.pictures import cut_out, differing, flipped, laid, turned
>>> red, blue, none = (15, 0, 0, 15), (0, 0, 15, 15), (0, 0, 0, 0)
>>> picture = ((red, none), (blue, blue))
>>> flipped(picture), turned(picture) == ((blue, red), (blue, none)), cut_out(picture, 1, 1, 1, 2)
(((none, red), (blue, blue)), True, ((blue,), (none,)))
>>> differing(picture, laid("plain", picture, flipped(picture), 15))
[(1, 0)]
"""),
    ("texts", r"""
>>> from paintershouse.texts import picture_text, read_picture
>>> picture_text(picture), read_picture("f00f 0000\n00ff 00ff\n") == picture
('f00f 0000\n00ff 00ff\n', True)
"""),
    ("regions", """
>>> from paintershouse.regions import both, less, moved, others, points_in, region_of, size_in, turned_region
>>> ring = region_of([(0, 0), (1, 0), (2, 0), (0, 1), (2, 1), (0, 2), (1, 2), (2, 2)])
>>> ring, size_in(ring), others((3, 3), ring)
(((0, 0, 2), (1, 0, 0), (1, 2, 2), (2, 0, 2)), 8, ((1, 1, 1),))
>>> moved((3, 3), ring, 1, 1), less(ring, ((0, 0, 1),)), turned_region((3, 2), ((0, 0, 1),))
(((1, 1, 2), (2, 1, 1)), ((0, 2, 2), (1, 0, 0), (1, 2, 2), (2, 0, 2)), ((0, 1, 1), (1, 1, 1)))
"""),
    ("parts", """
>>> from paintershouse.parts import filled, holes, judge_join, parts, parts_less_holes
>>> len(parts(ring, 4)), holes(ring, 4), filled(ring, 4), parts_less_holes(ring, 8)
(1, [((1, 1, 1),)], ((0, 0, 2), (1, 0, 2), (2, 0, 2)), 0)
>>> across = ((0, 0, 0), (1, 1, 1))
>>> len(parts(across, 4)), len(parts(across, 8)), judge_join(across, 4, (0, 0), (1, 1), ("wall", ((0, 0, 0),)))
(2, 1, True)
"""),
    ("grown", """
>>> from paintershouse.grown import closed, grown, opened, shrunk
>>> cross = ((-1, 0), (0, -1), (0, 0), (0, 1), (1, 0))
>>> grown((3, 3), ((1, 1, 1),), cross), shrunk((3, 3), ((0, 0, 2), (1, 0, 2)), cross), opened((3, 3), ((1, 0, 2),), cross)
(((0, 1, 1), (1, 0, 2), (2, 1, 1)), ((0, 0, 2),), ())
>>> closed((3, 3), ring, cross)
((0, 0, 2), (1, 0, 2), (2, 0, 2))
"""),
    ("distances", """
>>> from paintershouse.distances import field, gap, within
>>> field((3, 2), ((0, 0, 0),), "square"), within((3, 2), ((0, 0, 0),), "rook", 1), gap(ring, ((1, 1, 1),), "king")
(((0, 1, 4), (1, 2, 5)), ((0, 0, 1), (1, 0, 0)), 1)
"""),
    ("outlines", """
>>> from paintershouse.outlines import area_of, from_outlines, length_of, outlines
>>> outlines(ring), [area_of(loop) for loop in outlines(ring)], length_of(ring), from_outlines(outlines(ring)) == ring
((((0, 0), (3, 0), (3, 3), (0, 3)), ((1, 1), (1, 2), (2, 2), (2, 1))), [9, -1], 16, True)
"""),
    ("rectangles", """
>>> from paintershouse.rectangles import chords, crossing_paper, fewest_rectangles, judge_cut, least_by
>>> len(fewest_rectangles(ring)), least_by(ring, crossing_paper(ring)), judge_cut(ring, ((0, 0, 3, 1), (0, 1, 1, 3), (1, 2, 3, 3), (2, 1, 3, 2)))
(4, 4, True)
>>> plus = region_of([(1, 0), (0, 1), (1, 1), (2, 1), (1, 2)])
>>> chords(plus), len(fewest_rectangles(plus))
([((1, 1), (1, 2)), ((1, 1), (2, 1)), ((1, 2), (2, 2)), ((2, 1), (2, 2))], 3)
>>> least_by(plus, ((((1, 1), (2, 1)), ((1, 1), (1, 2))), (((1, 2), (2, 2)), ((2, 1), (2, 2)))))
3
"""),
    ("flooding", """
>>> from paintershouse.flooding import flooded
>>> black, grey = (0, 0, 0, 15), (6, 6, 6, 15)
>>> flooded(((black, grey), (grey, black)), (0, 0), 0, 4), flooded(((black, grey), (grey, black)), (0, 0), 0, 8), flooded(((black, grey), (grey, black)), (0, 0), 6, 4)
(((0, 0, 0),), ((0, 0, 0), (1, 1, 1)), ((0, 0, 1), (1, 0, 1)))
"""),
    ("strokes", """
>>> from paintershouse.strokes import line_points, stroke_region
>>> line_points((0, 0), (3, 1)), line_points((3, 1), (0, 0)), stroke_region(((1, 1),), ("round", 1))
([(0, 0), (1, 0), (2, 1), (3, 1)], [(3, 1), (2, 1), (1, 0), (0, 0)], ((0, 1, 1), (1, 0, 2), (2, 1, 1)))
"""),
    ("deeds", """
>>> from paintershouse.deeds import done, done_all, flood_region
>>> red, blue, none = (15, 0, 0, 15), (0, 0, 15, 15), (0, 0, 0, 0)
>>> picture = ((red, red, none), (blue, red, none))
>>> done(picture, ("move", 1, 0)) == ((none, red, red), (none, blue, red)), flood_region(picture, (0, 0), 0)
(True, ((0, 0, 1), (1, 1, 1)))
>>> done(picture, ("mean", ((0, 2, 2),), 1))[0], done(picture, ("erase", ((0, 0, 1),), 5))[0]
(((15, 0, 0, 15), (15, 0, 0, 15), (15, 0, 0, 3)), ((15, 0, 0, 10), (15, 0, 0, 10), (0, 0, 0, 0)))
>>> done_all(picture, (("flip",), ("fall",))) == ((none, red, blue), (none, red, red))
True
"""),
    ("shades", """
>>> from paintershouse.shades import PLAIN_SHADE, behind, fixed_pixel, shade_of, shaded
>>> half = shade_of(("erase", (), 8))
>>> half[0], shaded(half, (9, 0, 3, 15)), fixed_pixel(shade_of(("fill", (), (1, 2, 3, 15), "plain", 15)))
((0, 0, 1, 1, 2, 2, 3, 3, 4, 4, 5, 5, 6, 6, 7, 7), (9, 0, 3, 7), (1, 2, 3, 15))
>>> behind(PLAIN_SHADE, half) == half, fixed_pixel(half)
(True, None)
"""),
    ("forms", """
>>> from paintershouse.forms import drawn_by, form_of, least_picture
>>> form_of((2, 1), (("flip",),))[1], form_of((2, 1), (("move", 1, 0),))[1]
((((1, 0, 0), (0, 0, 0)),), (((0, 0, 0, 0), (0, 0, 0)),))
>>> form_of((2, 2), (("flip",), ("fall",))) == form_of((2, 2), (("turn",), ("turn",))), least_picture((2, 1), (("flip",),), ())
(True, (((0, 0, 0, 0), (0, 0, 0, 1)),))
"""),
    ("exchange", """
>>> from paintershouse.exchange import conflict, least_part, may_exchange, needless, one_deed
>>> left, right = ("erase", ((0, 0, 0),), 15), ("erase", ((0, 1, 1),), 15)
>>> may_exchange((2, 1), (left,), (right,)), conflict((2, 1), (left,), (("flip",),)), one_deed((2, 1), (left, ("flip",), right, ("flip",)))
(True, ((0, 0, 1),), ('tone', ((0, 0, 0),), ((0, 0, 0, 0, 0, 0, 0, 0, 0, 0, 0, 0, 0, 0, 0, 0), (0, 0, 0, 0, 0, 0, 0, 0, 0, 0, 0, 0, 0, 0, 0, 0), (0, 0, 0, 0, 0, 0, 0, 0, 0, 0, 0, 0, 0, 0, 0, 0), (0, 0, 0, 0, 0, 0, 0, 0, 0, 0, 0, 0, 0, 0, 0, 0))))
>>> needless((2, 1), (left, left, right)), least_part((2, 1), (left, ("flip",), left, ("flip",), right))
([0, 1], (0, 4))
"""),
    ("footprints", """
>>> from paintershouse.footprints import are_apart, footprint, touched
>>> soft = ("mean", ((0, 1, 1),), 1)
>>> footprint((4, 1), (soft, ("move", 1, 0)), (2, 0)), touched((4, 1), (soft,)), are_apart((4, 1), (soft,), (("erase", ((0, 3, 3),), 4),))
(((0, 0, 2),), ((0, 1, 1),), True)
"""),
    ("forgetting", """
>>> from paintershouse.forgetting import are_twins, kept_points, twins, undoing
>>> kept_points((2, 1), (("move", 1, 0),)), undoing((2, 2), (("turn",), ("flip",)))
(((0, 0, 0),), (('flip',), ('turn',), ('turn',), ('turn',)))
>>> one, other = twins((2, 1), (("move", 1, 0),))
>>> are_twins((2, 1), (("move", 1, 0),), one, other)
True
"""),
    ("menus", """
>>> from paintershouse.menus import judge_layers, layers_paper, least_of_menu
>>> menu = (("flip",), ("fall",), ("turn",))
>>> least_of_menu((2, 2), menu, (("turn",), ("turn",)), 3), least_of_menu((2, 2), menu, (("turn",), ("turn",), ("turn",)), 3)
((0, 1), (0, 1, 2))
>>> judge_layers((2, 2), menu, (("turn",), ("turn",)), layers_paper((2, 2), menu, 1)), judge_layers((2, 2), menu, (("turn",),), layers_paper((2, 2), menu, 1))
(True, False)
"""),
    ("layers", """
>>> from paintershouse.layers import add_above, flattened, grouped, names_of, seen
>>> red, blue, none = (15, 0, 0, 15), (0, 0, 15, 15), (0, 0, 0, 0)
>>> look = (1, "plain", 15, ())
>>> document = (2, 1, (("paint", "low", look, ((red, red),)), ("paint", "top", (1, "plain", 8, ((15, 0),)), ((blue, blue),))))
>>> seen(document), names_of(grouped(document, "top", "all"))
((((7, 0, 8, 15), (15, 0, 0, 15)),), ['low', 'all', 'top'])
>>> seen(flattened(grouped(document, "top", "all"), "all")) == seen(grouped(document, "top", "all"))
True
>>> seen(add_above(document, "", ("paint", "under", look, ((blue, blue),)))) == seen(document)
True
"""),
    ("opened", """
>>> from paintershouse.opened import filled, pixel_seen
>>> red, blue, none = (15, 0, 0, 15), (0, 0, 15, 15), (0, 0, 0, 0)
>>> look = (1, "plain", 15, ())
>>> document = (2, 1, (("paint", "low", look, ((red, red),)), ("paint", "top", (1, "plain", 15, ((15, 0),)), ((blue, blue),))))
>>> pixel_seen(document, ("low",), (0, 0), (red,)), pixel_seen(document, ("low", "top"), (1, 0), (blue, red))
((0, 0, 15, 15), (0, 0, 15, 15))
>>> filled(document, ("top",), (((none, none),),))[2][1][3]
(((0, 0, 0, 0), (0, 0, 0, 0)),)
"""),
    ("forall", """
>>> from paintershouse.forall import hidden_points, joined_above, may_exchange, same_for_all, sight_paper
>>> hidden_points(document, ("low",), "low"), hidden_points(document, ("low", "top"), "top"), may_exchange(document, ("low",), "low")
([(0, 0)], [(1, 0)], False)
>>> same_for_all(document, joined_above(document, "low"), ())
raises NotAllowed
>>> joined_above(document, "low")[2]
(('paint', 'low', (1, 'plain', 15, ()), (((0, 0, 15, 15), (15, 0, 0, 15)),)),)
"""),
    ("tiles", """
>>> from paintershouse.tiles import asks_of, tile_points, tiles_in, tiles_of
>>> tiles_of(5, 3, 2), tile_points(5, 3, 2, (2, 1)), tiles_in(5, 3, 2, (3, -1, 9, 2))
([(0, 0), (1, 0), (2, 0), (0, 1), (1, 1), (2, 1)], [(4, 2)], [(1, 0), (2, 0)])
>>> asks_of(5, 3, 2, [(0, 0, 2, 2), (1, 0, 2, 3)])
((0, 0, 1, 3, 4), (4, 4, 4, 2, 2))
"""),
    ("sight", """
>>> from paintershouse.sight import Sight, has_there, touched
>>> red, blue = (15, 0, 0, 15), (0, 0, 15, 15)
>>> look = (1, "plain", 15, ())
>>> document = (3, 1, (("paint", "low", look, ((red, red, red),)),))
>>> other = (3, 1, (("paint", "low", look, ((red, red, blue),)), ("paint", "off", (0, "times", 9, ()), ((red, red, red),))))
>>> has_there(other, (2, 0)), touched(document, other, 1)
((('paint', 'plain', 15, (0, 0, 15, 15)),), [(2, 0)])
>>> sight = Sight(document, 2)
>>> sight.look((0, 0, 1, 1)), sight.work(), sight.exchange(other), sight.made(), sight.look((1, 0, 2, 1)), sight.work()
((((15, 0, 0, 15),),), 2, None, [(0, 0)], (((15, 0, 0, 15), (0, 0, 15, 15)),), 3)
"""),
    ("smaller", """
>>> from paintershouse.smaller import mean_of, smaller
>>> mean_of([(15, 0, 0, 15), (0, 0, 0, 0)]), mean_of([(10, 0, 0, 3), (0, 10, 0, 6)]), smaller(((red, blue, red),), 2)
((15, 0, 0, 8), (3, 7, 0, 5), (((8, 0, 8, 15), (15, 0, 0, 15)),))
"""),
    ("shelf", """
>>> from paintershouse.shelf import best_plan, best_prices, bound_of, least_work, plan_work
>>> asks, costs = (1, 2, 3, 1, 2), (5, 3, 1, 5, 3)
>>> least_work(asks, costs, 1), least_work(asks, costs, 2), least_work(asks, costs, 3)
(17, 12, 9)
>>> plan_work(asks, costs, 2, (1, 0, 0, 0, 0)), bound_of(asks, costs, 2, (0, 3, 0, 0, 0)), bound_of(asks, costs, 2, (0, 0, 3, 0, 0))
(12, 9, 12)
"""),
    ("bits", """
>>> from paintershouse.bits import BitReader, check_bits, gamma, number_bits, pixel_bits
>>> number_bits(5, 4), gamma(5), pixel_bits((1, 2, 3, 4)), check_bits("1"), check_bits("")
('0101', '00101', '0100000100100011', '00000111', '00000000')
>>> reader = BitReader("0010100001")
>>> reader.gamma(), reader.pixel(), reader.left()
(5, (0, 0, 0, 0), 1)
"""),
    ("leastcodes", """
>>> from paintershouse.leastcodes import codes_of, judge_tree, least_lengths, total_of, tree_paper
>>> least_lengths((5, 1, 2)), total_of((5, 1, 2), (1, 2, 2)), codes_of((1, 2, 2))
((1, 2, 2), 11, ('0', '10', '11'))
>>> tree_paper((5, 1, 2)), judge_tree((5, 1, 2), (1, 2, 2), tree_paper((5, 1, 2)))
(((5, -1, -1), (1, -1, -1), (2, -1, -1), (3, 1, 2), (8, 3, 0)), True)
"""),
    ("guesses", """
>>> from paintershouse.guesses import best_guesses, folded, guessed, pass_points, unfolded
>>> [folded(d) for d in (0, -1, 1, 15, -8, 8)], unfolded(15), guessed(4, (3, 3, 3, 3), (5, 2, 9, 0), (4, 4, 4, 4))
([0, 1, 2, 1, 15, 15], -8, (4, 2, 9, 0))
>>> pass_points(9, 3, 0), pass_points(9, 3, 1), best_guesses((((1, 1, 1, 1), (1, 1, 1, 1)), ((1, 1, 1, 1), (1, 1, 1, 1))))
([(0, 0), (8, 0)], [(4, 0)], [1, 2])
"""),
    ("formats", """
>>> from paintershouse.formats import KINDS, code_of, least_code, read_code, seen_of, sizes_of
>>> dot = (((1, 2, 3, 4), (0, 0, 0, 0)),)
>>> code_of(dot, 0), read_code(code_of(dot, 0)), sizes_of(dot)
('00000001000000100000100100011000001101010', (0, (((1, 2, 3, 4), (0, 0, 0, 0)),)), [41, 43, 46, 54, 48, 61])
>>> seen_of(code_of(dot, 5)[:33]), read_code(least_code(dot))[0]
(((((1, 2, 3, 4), (1, 2, 3, 4)),), 1), 0)
"""),
    ("hands", """
>>> from paintershouse.hands import dispute, dispute_paper, do_agree, judge_dispute
>>> black, white = ("fill", ((0, 0, 1),), (0, 0, 0, 15), "plain", 15), ("fill", ((0, 1, 2),), (15, 15, 15, 15), "plain", 15)
>>> dispute((3, 1), ((black,), (white,))), do_agree((3, 1), ((black,), (), (black,)))
(((0, 1, 1),), True)
>>> judge_dispute((3, 1), ((black,), (white,)), dispute_paper((3, 1), ((black,), (white,)), (1, 0)))
True
"""),
    ("merging", """
>>> from paintershouse.merging import are_settled, clash, judge_parting, merged, merges, parting_paper
>>> merges((3, 1), (black,), (white,)), are_settled((3, 1), (black, ("flip",)), ()), clash((3, 1), (white,), (black,), (white,))
([(0, 1), (1, 0)], True, ((0, 1, 1),))
>>> clear = ("erase", ((0, 0, 2),), 15)
>>> judge_parting((3, 1), (black,), (white,), parting_paper((3, 1), (black,), (white,))), merged((3, 1), (clear,), (("flip",),), (("fall",),))
(True, (('erase', ((0, 0, 2),), 15), ('flip',), ('fall',)))
"""),
    ("makers", """
>>> from paintershouse.makers import made_by_deed, makers, origin
>>> makers((3, 1), (black, white, ("flip",)), (1, 0)), made_by_deed((3, 1), (black, white), 0), origin((3, 1), (black, ("flip",)), (0, 0))
([1], ((0, 0, 0),), (2, 0))
"""),
    ("rebasing", """
>>> from paintershouse.rebasing import carried_over, rebased
>>> carried_over((3, 1), black, ("flip",)), rebased((3, 1), (black, white), (("move", 1, 0),))[1][1]
(('fill', ((0, 1, 2),), (0, 0, 0, 15), 'plain', 15), ((0, 2, 2),))
"""),
    ("grounds", """
>>> from paintershouse.grounds import ground, keeps_to
>>> soft = ("mean", ((0, 1, 1),), 1)
>>> ground((4, 1), (soft,)), keeps_to((4, 1), (soft,), ((0, 1, 1),)), ground((4, 1), (("move", 0, 0),))
(((0, 0, 2),), False, ())
"""),
    ("values", """
>>> from paintershouse.values import read_value, value_text
>>> value_text(("paint", "low", (("move", -1, 0), ("flip",)), "", ())), read_value("(group top _ (7 -3))")
('(paint low ((move -1 0) (flip)) _ ())', ('group', 'top', '', (7, -3)))
"""),
    ("house", r"""
>>> from paintershouse.house import House, load_house
>>> house = House(2, 1)
>>> red, none = (15, 0, 0, 15), (0, 0, 0, 0)
>>> house.change(("layer", "", ("paint", "low", (1, "plain", 15, ()), ((none, none),)))), house.change(("paint", "low", (("fill", ((0, 1, 1),), red, "plain", 15),)))
(1, 2)
>>> house.seen(), house.undo(), house.seen(), house.redo(), house.now()
(((none, red),), None, ((none, none),), None, 2)
>>> house.mark("best"), house.go(1), house.change(("remove", "low")), house.go(2), house.image().split("\n")[2:]
(None, (1, 0), 3, (1, 1), ['from 1 (paint low ((fill ((0 1 1)) (15 0 0 15) plain 15)))', 'from 1 (remove low)', 'way 0 1', 'way 1 2', 'mark best 2', ''])
>>> load_house(house.image()).seen() == house.seen()
True
"""),
    ("desk", r"""
>>> from paintershouse.desk import run_script
>>> run_script("now\nhouse 2 1\ndo (layer _ (paint low (1 plain 15 ()) (((15 0 0 15) (0 0 0 0)))))\nrow 0\nsame ((flip) (flip)) | ()\nleast ((flip)) | ()\nundo\npixel 0 0\ndo (remove low)\nodd")
['none', 'ok', '1', 'f00f 0000', 'yes', '0000 0001', 'ok', '0000', 'missing', 'bad']
"""),
    ("palettes", """
>>> from paintershouse.palettes import best_palette, distance_of, loss_of, nearest, reduced
>>> red, dark, blue = (15, 0, 0, 15), (12, 0, 0, 15), (0, 0, 15, 15)
>>> distance_of(red, dark), nearest((blue, red), dark), loss_of(((red, dark, dark, blue),), (blue, dark))
(9, (15, 0, 0, 15), 9)
>>> best_palette(((red, dark, dark, blue),), (blue, dark, red), 2), reduced(((red, blue),), (dark,))
(((0, 0, 15, 15), (12, 0, 0, 15)), (((12, 0, 0, 15), (12, 0, 0, 15)),))
"""),
    ("scales", """
>>> from paintershouse.scales import best_scale, counts_of_levels, judge_greys, loss_by, true_greys
>>> counts = counts_of_levels(((0, 0, 1, 9, 15),))
>>> counts[:2], loss_by(counts, (0, 12)), best_scale(counts, 2), best_scale(counts, 3)
((2, 1), 19, (0, 12), (0, 9, 15))
>>> judge_greys(counts, 2, 19, true_greys(counts, 2)), judge_greys(counts, 2, 20, true_greys(counts, 2))
(True, False)
"""),
    ("dithers", """
>>> from paintershouse.dithers import carried, ordered, thresholds
>>> thresholds(1), ordered(((5, 5, 5, 5), (5, 5, 5, 5)), (0, 15), 1)
(((0, 2), (3, 1)), ((15, 0, 15, 0), (0, 15, 0, 15)))
>>> carried(((6, 6),), (0, 15))
(((0, 15),), -48)
"""),
    ("films", """
>>> from paintershouse.films import cut_film, joined, look_alike, root_of, seen_at, shift_of, strung
>>> red, blue = (((15, 0, 0, 15),),), (((0, 0, 15, 15),),)
>>> film = ((red, 2), (blue, 3), (red, 2), (blue, 3))
>>> seen_at(film, 4) == blue, seen_at(film, 10), root_of(film) == ((red, 2), (blue, 3)), cut_film(film, 1, 4) == ((red, 1), (blue, 2))
(True, None, True, True)
>>> shift_of(film, ((blue, 1), (red, 2), (blue, 2))), look_alike(strung([cut_film(film, 0, 4), cut_film(film, 4, 10)]), film)
(4, True)
"""),
    ("changes", """
>>> from paintershouse.changes import are_prices, best_keys, best_prices, change_cost, keys_cost, works_of
>>> one, two = ((red[0][0], red[0][0], blue[0][0]),), ((red[0][0], blue[0][0], blue[0][0]),)
>>> change_cost(one, two), change_cost(one, one), works_of(((one, 1), (two, 1), (two, 1)), (0,))
(3, 1, [3, 6, 7])
>>> best_keys(((one, 1), (two, 1), (two, 1)), 6), keys_cost(((one, 1), (two, 1), (two, 1)), 6, (0, 1)), are_prices(((one, 1), (two, 1)), 6, (0, 3, 7))
((0, 1), 7, False)
"""),
    ("threeways", """
>>> from paintershouse.threeways import film_clash, merged_film
>>> film_clash(((one, 1),), ((two, 1),), ((one, 1),)), merged_film(((one, 1),), ((two, 1),), ((one, 1),)) == ((two, 1),)
([], True)
"""),
]


README = Path(__file__).resolve().parent.parent / "README.md"


class ExamplesTests(unittest.TestCase):
    def test_examples(self):
        self.run_texts(EXAMPLES)

    def test_readme(self):
        blocks = re.findall(r"^```\n(.*?)^```$", README.read_text(encoding="utf-8"), re.M | re.S)
        self.assertGreater(len(blocks), 2)
        self.run_texts([("README.md", block) for block in blocks])

    def run_texts(self, texts):
        names = {}
        for file, text in texts:
            for example in doctest.DocTestParser().get_examples(text):
                with self.subTest(file=file, line=example.source):
                    self.run_example(example, names)

    def run_example(self, example, names):
        if not example.want:
            exec(example.source, names)
            return
        if example.want.startswith("raises "):
            error = getattr(errors, example.want.split()[1])
            self.assertRaises(error, eval, example.source, names)
            return
        answer = eval(example.source, names)
        # The names of colours stand in written answers, too.
        self.assertEqual(repr(answer), repr(eval(example.want, names)))


if __name__ == "__main__":
    unittest.main()
