"""[9.2] and [9.3]: changes of documents, and houses: undone, redone, gone to, marked, copied."""

import unittest

from paintershouse import layers
from paintershouse.deeds import done_all
from paintershouse.errors import Missing, NotAllowed, PaintError, TooLarge
from paintershouse.house import MAX_IMAGE, MAX_NODES, House, load_house
from tests.making import NAMES, Maker
from tests.test_deeds_errors import GOOD, wrong_deeds

NONE, RED, BLUE = (0, 0, 0, 0), (15, 0, 0, 15), (0, 0, 15, 15)
LOOK = (1, "plain", 15, ())
KEEP = tuple(range(16))
LOW = ("paint", "low", LOOK, ((RED, NONE),))
TOP = ("paint", "top", LOOK, ((NONE, BLUE),))
TONE = ("tone", "tone", LOOK, (KEEP,) * 4)
FILL = ("fill", ((0, 1, 1),), BLUE, "plain", 15)
NAMED = ("aa", "ab", "ac", "ad", "ae", "nope")


def made_change(maker, document):
    """A change that may be one of a document, or not."""
    wide, high, _ = document
    name = maker.one_of(tuple(layers.names_of(document)) + NAMED[maker.number(0, 5):])
    way = maker.number(0, 9)
    if way < 3:
        names = [maker.one_of(NAMES[:26])]
        item = maker.layers(wide, high, names, 4)[0]
        if maker.number(0, 3) == 0:
            item = ("group", maker.one_of(NAMES[:26]), maker.look(wide, high), (item,))
        return ("layer", maker.one_of(("", name)), item)
    if way < 5:
        row = tuple(maker.deed(maker.one_of(("fill", "erase", "tone", "stroke", "move", "flip", "mean", "flood")), wide, high) for _ in range(2))
        return ("paint", name, row)
    if way == 5:
        return ("remove", name)
    if way == 6:
        return ("flatten", name)
    if way == 7:
        return ("look", name, maker.look(wide, high))
    return ("group", name, maker.one_of(NAMES[:26]))


def plain_changed(document, change):
    """The document that a change gives, by the words of [9.2]."""
    word, name = change[0], change[1]
    if word == "paint":
        kind, _, look, picture = layers.layer(document, name)
        if kind != "paint":
            raise NotAllowed("no paint layer")
        return layers.replace(document, name, (kind, name, look, done_all(picture, change[2])))
    calls = {
        "layer": layers.add_above, "remove": layers.remove, "flatten": layers.flattened, "look": layers.look_of,
        "group": layers.grouped,
    }
    return calls[word](document, *change[1:])


class PlainHouse:
    """All documents, and when each one was open last."""

    def __init__(self, wide, high):
        self.documents, self.parents, self.changes = [(wide, high, ())], [-1], [()]
        self.opened, self.clock, self.now = {0: 0}, 0, 0
        self.marks = {}

    def enter(self, number):
        self.clock += 1
        self.opened[number] = self.clock
        self.now = number

    def change(self, change):
        document = plain_changed(self.documents[self.now], change)
        if len(self.documents) == 60:
            raise TooLarge("sixty documents")
        self.documents.append(document)
        self.parents.append(self.now)
        self.changes.append(change)
        self.enter(len(self.documents) - 1)
        return self.now

    def undo(self):
        if self.now == 0:
            raise Missing("the document 0")
        self.enter(self.parents[self.now])

    def children(self, number):
        return [k for k, parent in enumerate(self.parents) if parent == number]

    def way(self, number):
        return max(self.children(number), key=lambda k: self.opened[k])

    def redo(self):
        if not self.children(self.now):
            raise Missing("nothing came from it")
        self.enter(self.way(self.now))

    def path(self, number):
        return ([] if number == 0 else self.path(self.parents[number])) + [number]

    def go(self, number):
        if not 0 <= number < len(self.documents):
            raise Missing("no such document")
        start, path = self.path(self.now), self.path(number)
        both = len(set(start) & set(path))
        for k in path:
            self.enter(k)
        return (len(start) - both, len(path) - both)

    def mark(self, name):
        if not 1 <= len(name) <= 8 or not all("a" <= sign <= "z" for sign in name):
            raise NotAllowed("no name")
        self.marks[name] = self.now

    def unmark(self, name):
        if name not in self.marks:
            raise Missing("no mark")
        del self.marks[name]


def all_told(house):
    """All that a house tells, without changing it; by a copy also what redoing would do from each document."""
    told = [house.now(), house.many(), house.seen(), house.marked(), house.image()]
    for k in range(house.many()):
        told.append((house.document(k), house.change_of(k)))
    return told


def ways_of(house):
    """What redoing opens in each document from which others came; goes to and fro in a copy."""
    ways = {}
    for k in range(house.many()):
        other = house.copy()
        other.go(k)
        try:
            other.redo()
        except Missing:
            continue
        ways[k] = other.now()
    return ways


def answer_of(call, *told):
    try:
        return call(*told)
    except PaintError as error:
        return type(error)


def made_step(maker, house):
    """The name of a method, and its arguments."""
    way = maker.number(0, 19)
    if way < 9:
        return "change", (made_change(maker, house.document(house.now())),)
    if way < 13:
        return "undo", ()
    if way < 15:
        return "redo", ()
    if way < 17:
        return "go", (maker.number(-1, house.many()),)
    if way == 17:
        return "mark", (maker.one_of(("a", "best", "z", "ninesigns", "", "A")),)
    return ("unmark", (maker.one_of(("a", "best", "none")),)) if way == 18 else ("redo", ())


class ModelTests(unittest.TestCase):
    def test_long_walks(self):
        """[9.3] against all documents, and which of them was open last."""
        changed = 0
        for seed in range(14):
            maker = Maker(280 + seed)
            sides = maker.one_of(((1, 1), (2, 1), (2, 2), (3, 2)))
            house, plain = House(*sides), PlainHouse(*sides)
            for _ in range(120):
                name, told = made_step(maker, house)
                before = all_told(house)
                answer = answer_of(getattr(house, name), *told)
                self.assertEqual(answer, answer_of(getattr(plain, name), *told), (name, told))
                if isinstance(answer, type):
                    self.assertEqual(all_told(house), before)
                changed += name == "change" and type(answer) is int
                self.assertEqual(house.now(), plain.now)
                self.assertEqual(house.many(), len(plain.documents))
                self.assertEqual(house.marked(), sorted(plain.marks.items()))
                self.assertEqual(house.seen(), layers.seen(plain.documents[plain.now]))
            for k, document in enumerate(plain.documents):
                self.assertEqual(house.document(k), document)
                self.assertEqual(house.change_of(k), (plain.parents[k], plain.changes[k]))
            ways = {k: plain.way(k) for k in range(len(plain.documents)) if plain.children(k)}
            lines = [line for line in house.image().split("\n") if line.startswith("way ")]
            self.assertEqual(lines, [f"way {k} {ways[k]}" for k in sorted(ways)])
        self.assertGreater(changed, 200)

    def test_a_tree_without_changes_that_fail(self):
        """Many documents with many branches, gone to and fro."""
        for seed in range(6):
            maker = Maker(300 + seed)
            house, plain = House(1, 1), PlainHouse(1, 1)
            for k in range(59):
                change = ("layer", "", ("tone", NAMES[k % 26], LOOK, (KEEP,) * 4))
                there = maker.number(0, house.many() - 1)
                names = layers.names_of(house.document(there))
                if NAMES[k % 26] in names:
                    change = ("remove", NAMES[k % 26])
                self.assertEqual(house.go(there), plain.go(there))
                self.assertEqual(house.change(change), plain.change(change))
                for _ in range(maker.number(0, 3)):
                    name = maker.one_of(("undo", "redo", "redo"))
                    self.assertEqual(answer_of(getattr(house, name)), answer_of(getattr(plain, name)))
                    self.assertEqual(house.now(), plain.now)
            self.assertEqual(ways_of(house), {k: plain.way(k) for k in range(60) if plain.children(k)})


class HouseTests(unittest.TestCase):
    def house(self):
        house = House(2, 1)
        house.change(("layer", "", LOW))
        house.change(("paint", "low", (FILL,)))
        return house

    def test_names(self):
        self.assertEqual((MAX_NODES, MAX_IMAGE), (60, 200000))

    def test_a_new_house(self):
        for wide, high in ((1, 1), (24, 24), (3, 2)):
            house = House(wide, high)
            self.assertEqual((house.now(), house.many(), house.marked()), (0, 1, []))
            self.assertEqual(house.document(0), (wide, high, ()))
            self.assertEqual(house.change_of(0), (-1, ()))
            self.assertEqual(house.seen(), ((NONE,) * wide,) * high)
            self.assertEqual(all_told(house.copy()), all_told(house))
        for wide, high in ((0, 1), (1, 0), (25, 1), (1, 25), (-1, -1)):
            self.assertRaises(NotAllowed, House, wide, high)

    def test_undo_and_redo(self):
        house = self.house()
        self.assertIsNone(house.undo())
        self.assertEqual((house.now(), house.seen()), (1, ((RED, NONE),)))
        self.assertIsNone(house.undo())
        self.assertRaises(Missing, house.undo)
        self.assertEqual(house.now(), 0)
        self.assertIsNone(house.redo())
        self.assertIsNone(house.redo())
        self.assertRaises(Missing, house.redo)
        self.assertEqual((house.now(), house.seen()), (2, ((RED, BLUE),)))
        self.assertRaises(Missing, House(1, 1).redo)

    def test_redo_opens_the_one_that_was_open_last(self):
        house = self.house()
        house.undo()
        self.assertEqual(house.change(("remove", "low")), 3)
        house.undo()
        house.redo()
        self.assertEqual(house.now(), 3)
        # Going to 2 counts for all on the way, and going to 1 alone does not.
        self.assertEqual(house.go(2), (1, 1))
        self.assertEqual(house.go(1), (1, 0))
        house.redo()
        self.assertEqual(house.now(), 2)
        self.assertEqual(house.go(3), (1, 1))
        self.assertEqual(house.go(0), (2, 0))
        house.redo()
        house.redo()
        self.assertEqual(house.now(), 3)

    def test_go(self):
        house = self.house()
        self.assertEqual(house.go(2), (0, 0))
        self.assertEqual(house.go(0), (2, 0))
        self.assertEqual(house.go(2), (0, 2))
        self.assertEqual(house.go(1), (1, 0))
        for number in (-1, 3, 60, -2):
            self.assertRaises(Missing, house.go, number)
            self.assertRaises(Missing, house.document, number)
            self.assertRaises(Missing, house.change_of, number)
        self.assertEqual(house.now(), 1)

    def test_marks(self):
        house = self.house()
        self.assertIsNone(house.mark("best"))
        house.mark("also")
        self.assertEqual(house.marked(), [("also", 2), ("best", 2)])
        house.undo()
        house.mark("best")
        self.assertEqual(house.marked(), [("also", 2), ("best", 1)])
        self.assertIsNone(house.unmark("also"))
        self.assertRaises(Missing, house.unmark, "also")
        for name in ("", "A", "a b", "a1", "ninesigns", "_"):
            self.assertRaises(NotAllowed, house.mark, name)
            self.assertRaises(Missing, house.unmark, name)
        house.mark("eightsig")
        self.assertEqual(house.marked(), [("best", 1), ("eightsig", 1)])

    def test_sixty_documents_and_one_more(self):
        house = House(2, 1)
        house.change(("layer", "", LOW))
        for _ in range(58):
            house.change(("look", "low", LOOK))
        self.assertEqual(house.many(), 60)
        before = all_told(house)
        self.assertRaises(TooLarge, house.change, ("look", "low", LOOK))
        # The errors of the change come first.
        self.assertRaises(Missing, house.change, ("look", "top", LOOK))
        self.assertRaises(NotAllowed, house.change, ("look", "low", (2, "plain", 15, ())))
        self.assertRaises(NotAllowed, house.change, ("look", "low"))
        self.assertEqual(all_told(house), before)
        house.go(0)
        self.assertRaises(TooLarge, house.change, ("layer", "", LOW))
        self.assertEqual((house.now(), house.many()), (0, 60))

    def test_a_copy_goes_its_own_way(self):
        house = self.house()
        house.mark("best")
        other = house.copy()
        self.assertIs(type(other), House)
        self.assertEqual(all_told(other), all_told(house))
        kept = all_told(house)
        other.undo()
        other.change(("remove", "low"))
        other.mark("best")
        other.mark("more")
        other.unmark("best")
        self.assertEqual(all_told(house), kept)
        self.assertEqual(ways_of(house), {0: 1, 1: 2})
        kept = all_told(other)
        house.go(0)
        house.change(("layer", "", TOP))
        house.unmark("best")
        self.assertEqual(all_told(other), kept)
        self.assertEqual(ways_of(other), {0: 1, 1: 3})

    def test_lists_that_are_returned_are_new(self):
        house = self.house()
        house.mark("best")
        marked = house.marked()
        marked.append(("other", 1))
        marked[0] = ("best", 0)
        self.assertEqual(house.marked(), [("best", 2)])


class ChangeTests(unittest.TestCase):
    def house(self):
        house = House(2, 1)
        house.change(("layer", "", LOW))
        house.change(("layer", "low", ("group", "all", LOOK, (TOP, TONE))))
        return house

    def refused(self, error, change):
        house = self.house()
        before = all_told(house)
        self.assertRaises(error, house.change, change)
        self.assertEqual(all_told(house), before)

    def test_each_change(self):
        mask = (0, "times", 9, ((1, 2),))
        wanted = {
            ("remove", "top"): (LOW, ("group", "all", LOOK, (TONE,))), ("remove", "all"): (LOW,),
            ("flatten", "all"): (LOW, ("paint", "all", LOOK, ((NONE, BLUE),))),
            ("look", "tone", mask): (LOW, ("group", "all", LOOK, (TOP, ("tone", "tone", mask, TONE[3])))),
            ("group", "top", "new"): (LOW, ("group", "all", LOOK, (("group", "new", LOOK, (TOP,)), TONE))),
            ("paint", "top", (("flip",), FILL)): (LOW, ("group", "all", LOOK, (("paint", "top", LOOK, ((BLUE, BLUE),)), TONE))),
            ("paint", "low", ()): (LOW, ("group", "all", LOOK, (TOP, TONE))),
        }
        for change, made in wanted.items():
            house = self.house()
            self.assertEqual(house.change(change), 3)
            self.assertEqual(house.document(3), (2, 1, made))
            self.assertEqual(house.change_of(3), (2, change))
            self.assertEqual(house.document(2), self.house().document(2))

    def test_missing(self):
        for change in (
            ("layer", "none", ("paint", "more", LOOK, LOW[3])), ("remove", "none"), ("remove", ""), ("flatten", "none"), ("look", "none", LOOK),
            ("group", "none", "new"), ("paint", "none", (FILL,)), ("layer", "none", ("odd", "?", (5, "?", -1, ()), ())),
            ("look", "none", (5, "?", -1, ((99,),))), ("group", "none", "???"), ("paint", "none", (("move", 99, 99),)),
            ("layer", "none", ("paint", "", LOOK, ())), ("paint", "", ()),
        ):
            self.refused(Missing, change)

    def test_not_allowed(self):
        other = ("paint", "more", LOOK, ((NONE,),))
        for change in (
            ("layer", "", LOW), ("layer", "", other), ("layer", "top", ("odd", "more", LOOK, ())), ("layer", "", ("paint", "Big", LOOK, LOW[3])),
            ("flatten", "low"), ("flatten", "tone"), ("look", "low", (2, "plain", 15, ())), ("look", "low", (1, "odd", 15, ())),
            ("look", "low", (1, "plain", 16, ())), ("look", "low", (1, "plain", 15, ((1,),))), ("group", "low", "top"), ("group", "low", ""),
            ("paint", "all", (FILL,)), ("paint", "tone", (FILL,)), ("paint", "low", (("turn",),)), ("paint", "low", (("flip",),) * 41),
            ("paint", "tone", (("move", 99, 99),)), ("group", "low", "ninesigns"),
        ):
            self.refused(NotAllowed, change)
        for deed in wrong_deeds():
            self.refused(NotAllowed, ("paint", "low", (deed,)))

    def test_too_large(self):
        house = House(2, 1)
        many = tuple(("tone", NAMES[k], LOOK, TONE[3]) for k in range(24))
        house.change(("layer", "", ("group", "all", LOOK, many[:23])))
        self.assertRaises(TooLarge, house.change, ("layer", "", LOW))
        self.assertRaises(TooLarge, house.change, ("group", "all", "more"))
        self.assertRaises(NotAllowed, house.change, ("group", "all", "aa"))
        self.assertEqual(house.change(("remove", "aa")), 2)
        self.assertEqual(house.change(("layer", "", LOW)), 3)

    def test_groups_within_groups(self):
        item = LOW
        for k in range(4):
            item = ("group", NAMES[k], LOOK, (item,))
        house = House(2, 1)
        self.assertEqual(house.change(("layer", "", item)), 1)
        self.assertRaises(NotAllowed, house.change, ("group", "low", "more"))
        self.assertRaises(NotAllowed, House(2, 1).change, ("layer", "", ("group", "more", LOOK, (item,))))


class BuiltTests(unittest.TestCase):
    """What is not built like a change is refused ahead of the errors of changes."""

    def refused(self, change):
        house = House(2, 1)
        house.change(("layer", "", LOW))
        self.assertRaises(NotAllowed, house.change, change)
        self.assertEqual((house.now(), house.many()), (1, 2))

    def test_other_values(self):
        for value in (
            "", "remove", 0, -7, (), ("",), ("remove",), ("remove", "none", ""), ("odd", "none"), (("remove", "none"),), (("remove",), "none"),
            (0, "none"), ("remove", 0), ("remove", ()), ("remove", ("none",)), ("flatten",), ("flatten", "none", "none"), ("flatten", 1),
            ("group", "none"), ("group", "none", 1), ("group", 1, "new"), ("group", "none", "new", "new"), ("group", "none", ()),
            ("paint", "none"), ("paint", "none", ""), ("paint", "none", 0), ("paint", 0, ()), ("paint", "none", (), ()), ("paint", "none", ("flip",)),
            ("look", "none"), ("look", "none", ""), ("look", "none", 1), ("look", 1, LOOK), ("look", "none", LOOK, LOOK), ("look", "none", ()),
            ("layer", "none"), ("layer", "none", ""), ("layer", 0, LOW), ("layer", "none", LOW, LOW), ("layer", "none", ()), ("layer", "none", 5),
            ("layers", "none", LOW), ("Remove", "none"), ("undo",), ((((),),),),
        ):
            self.refused(value)

    def test_looks(self):
        for look in (
            (1, "plain", 15), (1, "plain", 15, (), ()), ("1", "plain", 15, ()), (1, 0, 15, ()), (1, "plain", "15", ()), (1, "plain", 15, ""),
            (1, "plain", 15, 0), (1, "plain", 15, (1,)), (1, "plain", 15, ((),) + ("",)), (1, "plain", 15, (("a",),)), (1, "plain", 15, (((1,),),)),
            ((), "plain", 15, ()), (1, ("plain",), 15, ()), (1, "plain", (), ()),
        ):
            self.refused(("look", "none", look))
            self.refused(("layer", "none", ("paint", "more", look, LOW[3])))
            self.refused(("layer", "none", ("group", "more", LOOK, (("tone", "tone", look, TONE[3]),))))

    def test_layers(self):
        for item in (
            ("paint", "more", LOOK), ("paint", "more", LOOK, LOW[3], ()), (0, "more", LOOK, LOW[3]), ("paint", 0, LOOK, LOW[3]),
            ("paint", "more", LOOK, ""), ("paint", "more", LOOK, 5), ("paint", "more", LOOK, (5,)), ("paint", "more", LOOK, ((5,),)),
            ("paint", "more", LOOK, ((("a",),),)), ("paint", "more", LOOK, ((((1,),),),)), ("paint", "more", LOOK, (((1, 2, 3, 4),), "")),
            ("tone", "more", LOOK, ""), ("tone", "more", LOOK, (1,)), ("tone", "more", LOOK, (("a",),)), ("tone", "more", LOOK, (((1,),),)),
            ("group", "more", LOOK, ""), ("group", "more", LOOK, 7), ("group", "more", LOOK, ("low",)), ("group", "more", LOOK, ((),)),
            ("group", "more", LOOK, (LOW, ("paint", "more", LOOK))), ("odd", "more", LOOK, ""), ("odd", "more", LOOK, 1), ("odd", "more", LOOK),
            ("group", "more", LOOK, LOW), ((), "more", LOOK, ()), ("paint", (), LOOK, LOW[3]),
        ):
            self.refused(("layer", "none", item))

    def test_deeds(self):
        paint = (RED, "plain", 15)
        for deed in (
            (), ("",), "flip", 0, ("odd",), (("flip",),), (0,), ("flip", 0), ("fall", ""), ("turn", ()), ("move", 1), ("move", 1, 1, 1), ("move", "a", 1),
            ("move", 1, ()), ("fill", ()) + paint[:2], ("fill", ()) + paint + (1,), ("fill", 0) + paint, ("fill", (0,)) + paint,
            ("fill", ((0, 0),)) + paint, ("fill", ((0, 0, 0, 0),)) + paint, ("fill", (("a", 0, 0),)) + paint, ("fill", (), 0, "plain", 15),
            ("fill", (), ("a",), "plain", 15), ("fill", (), ((1,),), "plain", 15), ("fill", (), RED, 0, 15), ("fill", (), RED, "plain", "a"),
            ("fill", (), RED, "plain", ()), ("erase", ()), ("erase", (), ""), ("erase", "", 0), ("tone", ()), ("tone", (), 0), ("tone", (), (0,)),
            ("tone", (), (("a",),)), ("tone", (), (((0,),),)), ("stroke", ((0, 0),), ("round", 0), RED, "plain"), ("stroke", 0, ("round", 0)) + paint,
            ("stroke", (0, 0), ("round", 0)) + paint, ("stroke", ((0,),), ("round", 0)) + paint, ("stroke", ((0, 0, 0),), ("round", 0)) + paint,
            ("stroke", ((0, 0),), "round") + paint, ("stroke", ((0, 0),), ("round",)) + paint, ("stroke", ((0, 0),), ("round", 0, 0)) + paint,
            ("stroke", ((0, 0),), (0, 0)) + paint, ("stroke", ((0, 0),), ("round", "a")) + paint, ("copy", (), 0), ("copy", (), 0, ""),
            ("copy", (), "", 0), ("mean", ()), ("mean", (), ()), ("mean", 0, 1), ("swell", (), "a"), ("flood", (0, 0)) + paint,
            ("flood", (0,)) + paint + (1,), ("flood", (0, 0, 0)) + paint + (1,), ("flood", 0) + paint + (1,), ("flood", (0, "a")) + paint + (1,),
            ("flood", (0, 0)) + paint + ("a",), ("flood", ((0,), 0)) + paint + (1,),
        ):
            self.refused(("paint", "none", (deed,)))
            self.refused(("paint", "none", (("flip",), deed)))

    def test_what_is_built_may_tell_anything(self):
        house = House(2, 1)
        house.change(("layer", "", LOW))
        for deed in GOOD.values():
            self.assertRaises(Missing, house.change, ("paint", "none", (deed,)))
        for deed in (
            ("move", 99, -99), ("fill", ((9, -5, 99),), (), "", -1), ("stroke", (), ("", -1), (1, 2, 3, 4, 5), "x", 99), ("tone", (), ()),
            ("tone", ((5, 4, 3),), ((1,), ())), ("copy", (), -10 ** 6, 10 ** 6), ("mean", (), 9), ("swell", ((0, 0, 0), (0, 0, 0)), 0),
            ("flood", (-1, 99), (0,), "?", 16, 16), ("erase", (), 16),
        ):
            self.assertRaises(Missing, house.change, ("paint", "none", (deed,)))
            if deed[0] != "copy":
                self.assertRaises(NotAllowed, house.change, ("paint", "low", (deed,)))
        self.assertRaises(Missing, house.change, ("paint", "none", (("flip",),) * 50))
        self.assertEqual(house.change(("paint", "low", (("copy", (), -10 ** 6, 10 ** 6),))), 2)
        self.assertRaises(Missing, house.change, ("layer", "none", ("group", "?", (9, "", -9, ((), (1,))), (("tone", "", LOOK, ()),))))
        self.assertRaises(Missing, house.change, ("layer", "none", ("odd", "", LOOK, ("a", 1, ((),)))))

    def test_the_loaded_house_goes_on(self):
        house = House(2, 1)
        house.change(("layer", "", LOW))
        other = load_house(house.image())
        self.assertEqual(other.change(("remove", "low")), 2)
        self.assertEqual(house.many(), 2)


if __name__ == "__main__":
    unittest.main()
