"""[5.1] to [5.4]: documents, layers, what is seen of them, and documents with other layers."""

import unittest

from paintershouse.errors import Missing, NotAllowed, TooLarge
from paintershouse.layers import (
    add_above, check_document, flattened, grouped, layer, look_of, names_of, over_all, remove, replace, seen,
)
from paintershouse.pictures import blank, laid, points_of
from paintershouse.pixels import CLEAR, MODES, blended
from tests.making import NAMES, Maker

RED, BLUE = (15, 0, 0, 15), (0, 0, 15, 15)
LOOK = (1, "plain", 15, ())
PLAIN = tuple(range(16))
TABLES = (PLAIN,) * 4
DOT = ((RED,),)


def paint(name, look=LOOK, picture=DOT):
    return ("paint", name, look, picture)


def group(name, *layers):
    return ("group", name, LOOK, layers)


def tone(name, look=LOOK, tables=TABLES):
    return ("tone", name, look, tables)


def dot(*layers):
    """A document with the sides 1 and 1."""
    return (1, 1, layers)


def plain_over(below, layers):
    """The words of [5.3], layer by layer, each one over the whole picture."""
    high, wide = len(below), len(below[0])
    for kind, _, (shown, mode, level, mask), inner in layers:
        if not shown:
            continue
        levels = mask or ((15,) * wide,) * high
        if kind == "group":
            inner = plain_over(blank(wide, high), inner)
        rows = []
        for y in range(high):
            row = []
            for x in range(wide):
                there = (level * levels[y][x] + 7) // 15
                if kind == "tone":
                    row.append(plain_tone(below[y][x], inner, there))
                else:
                    row.append(blended(mode, below[y][x], inner[y][x], there))
            rows.append(tuple(row))
        below = tuple(rows)
    return below


def plain_tone(pixel, tables, level):
    made = [tables[k][pixel[k]] for k in range(4)]
    if made[3] == 0:
        made = [0, 0, 0, 0]
    levels = [(pixel[k] * (15 - level) + made[k] * level + 7) // 15 for k in range(4)]
    return tuple(levels) if levels[3] else CLEAR


def documents(seed, many):
    maker = Maker(seed)
    for k in range(many):
        wide, high = maker.one_of(((1, 1), (3, 2), (2, 4), (1, 5)))
        yield maker, maker.document(wide, high, maker.number(0, 10))


def all_layers(layers):
    for item in layers:
        yield item
        if item[0] == "group":
            yield from all_layers(item[3])


def nested(deep, inner=()):
    """So many groups within one another."""
    layers = inner
    for k in range(deep):
        layers = (("group", "g" + NAMES[k], LOOK, layers),)
    return layers


class CheckTests(unittest.TestCase):
    def refused(self, *layers):
        self.assertRaises(NotAllowed, check_document, dot(*layers))

    def test_documents(self):
        for document in (dot(), dot(paint("a")), dot(group("a"), tone("b")), (24, 24, ()), (1, 24, (tone("abcdefgh"),))):
            self.assertIsNone(check_document(document))
        for _, document in documents(101, 60):
            check_document(document)

    def test_sides(self):
        for wide, high in ((0, 1), (1, 0), (25, 1), (1, 25), (-1, 1)):
            self.assertRaises(NotAllowed, check_document, (wide, high, ()))

    def test_kinds(self):
        for kind in ("", "Paint", "layer", "fill", "pain"):
            self.refused((kind, "a", LOOK, ()))
            self.refused((kind, "a", LOOK, DOT))

    def test_names(self):
        for name in ("a", "z", "abcdefgh", "zzzzzzzz"):
            check_document(dot(paint(name)))
        for name in ("", "abcdefghi", "A", "a1", "a b", "aB", "a-", "_", "`", "{", "name\n"):
            self.refused(paint(name))
            self.refused(group("g", tone(name)))

    def test_no_name_twice(self):
        self.refused(paint("a"), paint("a"))
        self.refused(paint("a"), group("b", group("c", tone("a"))))
        self.refused(group("a", group("a")))
        self.refused(group("a", tone("c")), group("b", tone("c")))

    def test_looks(self):
        for look in ((0, "plain", 0, ()), (1, "apart", 15, ((0,),)), (1, "times", 7, ((15,),))):
            for item in (paint("a", look), tone("a", look), ("group", "a", look, ())):
                check_document(dot(item))
        for look in (
            (2, "plain", 15, ()), (-1, "plain", 15, ()), (1, "Plain", 15, ()), (1, "", 15, ()), (1, "plain", 16, ()),
            (1, "plain", -1, ()), (1, "plain", 15, ((16,),)), (1, "plain", 15, ((-1,),)), (1, "plain", 15, ((),)),
            (1, "plain", 15, ((1, 1),)), (1, "plain", 15, ((1,), (1,))), (0, "plain", 15, ((1,), ())),
        ):
            for item in (paint("a", look), tone("a", look), ("group", "a", look, ())):
                self.refused(item)
                self.refused(group("g", item))

    def test_pictures(self):
        for picture in (
            (), ((),), ((RED, RED),), ((RED,), (RED,)), (((1, 2, 3),),), (((1, 2, 3, 16),),), (((1, 0, 0, 0),),),
        ):
            self.refused(paint("a", LOOK, picture))
        self.assertRaises(NotAllowed, check_document, (2, 1, (paint("a", LOOK, ((RED,), (RED,))),)))
        check_document((2, 1, (paint("a", LOOK, ((RED, CLEAR),)),)))

    def test_tables(self):
        for tables in (
            (), TABLES[:3], TABLES + TABLES[:1], TABLES[:3] + (PLAIN[:15],), TABLES[:3] + (PLAIN + (0,),),
            ((16,) * 16,) + TABLES[1:], ((-1,) * 16,) + TABLES[1:],
        ):
            self.refused(tone("a", LOOK, tables))

    def test_groups_within_one_another(self):
        check_document((1, 1, nested(4, (paint("a"),))))
        self.assertRaises(NotAllowed, check_document, (1, 1, nested(5)))
        self.assertRaises(NotAllowed, check_document, (1, 1, nested(30)))
        check_document((1, 1, nested(4) + (group("a", group("b", group("c", group("d")))),)))

    def test_how_many_layers(self):
        names = [name for name in NAMES[:25]]
        check_document(dot(*(tone(name) for name in names[:24])))
        self.assertRaises(TooLarge, check_document, dot(*(tone(name) for name in names)))
        check_document(dot(group("x", *(tone(name) for name in names[:23]))))
        self.assertRaises(TooLarge, check_document, dot(group("x", *(tone(name) for name in names[:24]))))

    def test_not_allowed_ahead_of_too_large(self):
        many = [tone(name) for name in NAMES[:24]]
        self.assertRaises(NotAllowed, check_document, dot(*many, many[0]))
        self.assertRaises(NotAllowed, check_document, dot(*many, paint("Q")))
        self.assertRaises(NotAllowed, check_document, (1, 25, tuple(many) * 2))
        self.assertRaises(TooLarge, check_document, dot(*many, paint("q")))


class SeenTests(unittest.TestCase):
    def test_plain_reading(self):
        for maker, document in documents(102, 120):
            wide, high, layers = document
            self.assertEqual(seen(document), plain_over(blank(wide, high), layers))
            below = maker.picture(wide, high)
            self.assertEqual(over_all(below, layers), plain_over(below, layers))

    def test_no_layers(self):
        self.assertEqual(seen((3, 2, ())), blank(3, 2))
        self.assertEqual(over_all(DOT, ()), DOT)

    def test_a_layer_that_is_not_shown(self):
        off = (0, "plain", 15, ())
        for item in (paint("a", off), ("group", "a", off, (paint("b"),)), tone("a", off, ((0,) * 16,) * 4)):
            self.assertEqual(over_all(((BLUE,),), (item,)), ((BLUE,),))

    def test_modes_and_levels(self):
        maker = Maker(103)
        for mode in MODES:
            below, above = maker.picture(3, 3), maker.picture(3, 3)
            for level in (0, 1, 8, 15):
                item = ("paint", "a", (1, mode, level, ()), above)
                self.assertEqual(over_all(below, (item,)), laid(mode, below, above, level))

    def test_masks(self):
        masked = (1, "plain", 8, ((15, 0, 7),))
        picture = over_all(((BLUE,) * 3,), (paint("a", masked, ((RED,) * 3,)),))
        self.assertEqual(picture, ((blended("plain", BLUE, RED, 8), BLUE, blended("plain", BLUE, RED, 4)),))

    def test_a_group_lies_above_as_a_whole(self):
        half = (1, "plain", 8, ())
        inner = (paint("a", LOOK), paint("b", LOOK, ((BLUE,),)))
        self.assertEqual(over_all(((RED,),), (("group", "g", half, inner),)), ((blended("plain", RED, BLUE, 8),),))
        # A mode within a group has nothing below it but what the group has.
        screen = (1, "times", 15, ())
        self.assertEqual(over_all(((BLUE,),), (group("g", paint("a", screen)),)), ((RED,),))
        self.assertEqual(over_all(((BLUE,),), (group("g"),)), ((BLUE,),))

    def test_a_tone(self):
        turned = (PLAIN[::-1],) * 3 + (PLAIN,)
        self.assertEqual(over_all(((RED,),), (tone("t", LOOK, turned),)), (((0, 15, 15, 15),),))
        self.assertEqual(over_all(((RED,),), (tone("t", (1, "times", 5, ()), turned),)), (((10, 5, 5, 15),),))
        self.assertEqual(over_all(((RED,),), (tone("t", (1, "plain", 0, ()), turned),)), ((RED,),))
        self.assertEqual(over_all(((RED,),), (tone("t", LOOK, TABLES[:3] + ((0,) * 16,)),)), ((CLEAR,),))
        # If the table takes the cover away, its colours count for nothing.
        away = ((9,) * 16,) * 3 + ((0,) * 16,)
        self.assertEqual(over_all(((RED,),), (tone("t", (1, "plain", 5, ()), away),)), (((10, 0, 0, 10),),))
        filled = ((9,) * 16,) * 3 + ((6,) * 16,)
        self.assertEqual(seen(dot(tone("t", (1, "plain", 5, ()), filled))), (((3, 3, 3, 2),),))
        self.assertEqual(seen(dot(tone("t", (1, "plain", 1, ()), filled))), ((CLEAR,),))

    def test_group_theorem(self):
        for _, document in documents(104, 120):
            for item in all_layers(document[2]):
                if item[0] == "group":
                    made = flattened(document, item[1])
                    kind, name, look, picture = layer(made, item[1])
                    self.assertEqual((kind, name, look), ("paint", item[1], item[2]))
                    self.assertEqual(picture, plain_over(blank(*document[:2]), item[3]))
                    self.assertEqual(seen(made), seen(document))


class NamesTests(unittest.TestCase):
    def test_names_and_layers(self):
        inner = (tone("c"), paint("d"))
        document = dot(paint("a"), ("group", "b", LOOK, inner), tone("e"))
        self.assertEqual(names_of(document), ["a", "b", "c", "d", "e"])
        self.assertEqual(layer(document, "b"), ("group", "b", LOOK, inner))
        self.assertEqual(layer(document, "d"), paint("d"))
        self.assertEqual(names_of(dot()), [])
        for _, document in documents(105, 30):
            self.assertEqual(names_of(document), [item[1] for item in all_layers(document[2])])
            for item in all_layers(document[2]):
                self.assertEqual(layer(document, item[1]), item)

    def test_no_such_layer(self):
        for name in ("z", "", "A", "aa"):
            self.assertRaises(Missing, layer, dot(paint("a"), group("b")), name)


class ChangedTests(unittest.TestCase):
    def setUp(self):
        self.document = dot(paint("a"), group("b", tone("c"), group("d")), tone("e"))

    def test_add_above(self):
        new = paint("new")
        a, b, e = self.document[2]
        self.assertEqual(add_above(self.document, "", new), dot(new, a, b, e))
        self.assertEqual(add_above(self.document, "a", new), dot(a, new, b, e))
        self.assertEqual(add_above(self.document, "b", new), dot(a, b, new, e))
        self.assertEqual(add_above(self.document, "c", new), dot(a, group("b", tone("c"), new, group("d")), e))
        self.assertEqual(add_above(self.document, "d", new), dot(a, group("b", tone("c"), group("d"), new), e))
        self.assertEqual(add_above(self.document, "e", new), dot(a, b, e, new))
        self.assertEqual(add_above(dot(), "", new), dot(new))
        whole = group("new", paint("x"), tone("y"))
        self.assertEqual(add_above(self.document, "e", whole), dot(a, b, e, whole))

    def test_remove(self):
        a, b, e = self.document[2]
        self.assertEqual(remove(self.document, "a"), dot(b, e))
        self.assertEqual(remove(self.document, "b"), dot(a, e))
        self.assertEqual(remove(self.document, "d"), dot(a, group("b", tone("c")), e))
        self.assertEqual(remove(remove(self.document, "c"), "d"), dot(a, group("b"), e))

    def test_replace(self):
        a, b, e = self.document[2]
        self.assertEqual(replace(self.document, "a", tone("a")), dot(tone("a"), b, e))
        self.assertEqual(replace(self.document, "b", paint("c")), dot(a, paint("c"), e))
        self.assertEqual(replace(self.document, "d", paint("x")), dot(a, group("b", tone("c"), paint("x")), e))

    def test_look_of(self):
        look = (0, "apart", 3, ((7,),))
        a, b, e = self.document[2]
        self.assertEqual(look_of(self.document, "a", look), dot(paint("a", look), b, e))
        self.assertEqual(look_of(self.document, "b", look), dot(a, ("group", "b", look, b[3]), e))
        self.assertEqual(look_of(self.document, "c", look), dot(a, group("b", tone("c", look), group("d")), e))

    def test_grouped(self):
        a, b, e = self.document[2]
        self.assertEqual(grouped(self.document, "a", "new"), dot(group("new", a), b, e))
        self.assertEqual(grouped(self.document, "b", "new"), dot(a, group("new", b), e))
        self.assertEqual(grouped(self.document, "c", "new"), dot(a, group("b", group("new", tone("c")), group("d")), e))

    def test_flattened(self):
        document = (2, 1, (group("g", paint("a", LOOK, ((RED, CLEAR),)), tone("t", LOOK, (PLAIN[::-1],) * 3 + (PLAIN,))),))
        self.assertEqual(flattened(document, "g"), (2, 1, (paint("g", LOOK, (((0, 15, 15, 15), CLEAR),)),)))
        self.assertEqual(flattened(self.document, "d")[2][1], group("b", tone("c"), paint("d", LOOK, ((CLEAR,),))))

    def test_missing_ahead_of_all_else(self):
        wrong = ("wrong", "", (2, "", 16, ((),)), ())
        for name in ("z", "aa", "A"):
            self.assertRaises(Missing, add_above, self.document, name, wrong)
            self.assertRaises(Missing, remove, self.document, name)
            self.assertRaises(Missing, replace, self.document, name, wrong)
            self.assertRaises(Missing, look_of, self.document, name, wrong[2])
            self.assertRaises(Missing, grouped, self.document, name, "A")
            self.assertRaises(Missing, flattened, self.document, name)
        for call, told in ((remove, ()), (replace, (paint("z"),)), (look_of, (LOOK,)), (grouped, ("z",)), (flattened, ())):
            self.assertRaises(Missing, call, self.document, "", *told)

    def test_something_else_than_a_document(self):
        for item in (paint("b"), paint("c"), paint("Z"), ("x", "z", LOOK, ()), paint("z", (2, "plain", 15, ())),
                     paint("z", LOOK, ((RED, RED),)), group("z", paint("a")), group("z", paint("z"))):
            self.assertRaises(NotAllowed, add_above, self.document, "a", item)
            self.assertRaises(NotAllowed, add_above, self.document, "", item)
            self.assertRaises(NotAllowed, replace, self.document, "e", item)
        for look in ((2, "plain", 15, ()), (1, "x", 15, ()), (1, "plain", 16, ()), (1, "plain", 15, ((1, 1),))):
            self.assertRaises(NotAllowed, look_of, self.document, "c", look)
        for new in ("a", "b", "c", "", "Z", "ninesigns"):
            self.assertRaises(NotAllowed, grouped, self.document, "c", new)
        for name in ("a", "c", "e"):
            self.assertRaises(NotAllowed, flattened, self.document, name)

    def test_groups_within_one_another(self):
        document = (1, 1, nested(4, (paint("a"),)))
        for name in ("a", "gaa", "gad"):
            self.assertRaises(NotAllowed, grouped, document, name, "new")
        self.assertRaises(NotAllowed, add_above, document, "a", group("new"))
        add_above(document, "gaa", group("new"))
        self.assertRaises(NotAllowed, replace, document, "a", group("new"))

    def test_too_many_layers(self):
        full = dot(group("x"), *(paint(name) for name in NAMES[:23]))
        self.assertRaises(TooLarge, add_above, full, "x", paint("new"))
        self.assertRaises(TooLarge, add_above, full, "", paint("new"))
        self.assertRaises(TooLarge, grouped, full, "x", "new")
        self.assertRaises(TooLarge, replace, full, "x", group("x", paint("new")))
        self.assertRaises(NotAllowed, add_above, full, "x", paint("aa"))
        self.assertRaises(NotAllowed, grouped, full, "x", "aa")
        self.assertRaises(Missing, add_above, full, "zz", paint("new"))
        self.assertEqual(len(names_of(replace(full, "aa", paint("new")))), 24)


if __name__ == "__main__":
    unittest.main()
