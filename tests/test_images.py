"""[9.4]: the images of houses, and which texts are read as images."""

import unittest

from paintershouse.errors import BadForm, NotAllowed
from paintershouse.house import House, load_house
from tests.making import NAMES, Maker
from tests.test_house import LOOK, LOW, TOP, all_told, answer_of, made_step, ways_of

KEEP = tuple(range(16))
# Two changes of the document 0, two of the document 1, and one of the document 4; the marks stand in order.
TREE = [
    "house 2 1 5",
    "from 0 (layer _ (tone low (1 plain 15 ()) ((0) (0) (0) (0))))".replace("(0)", "(" + " ".join(map(str, range(16))) + ")"),
    "from 1 (look low (0 plain 15 ()))",
    "from 0 (layer _ (group all (1 times 9 ((1 2))) ()))",
    "from 1 (group low new)",
    "from 4 (remove new)",
    "way 0 1",
    "way 1 4",
    "way 4 5",
    "mark a 5",
    "mark best 0",
]


def text_of(lines):
    return "".join(line + "\n" for line in lines)


def made_houses(seed, many):
    """Houses with what random walks made of them."""
    for k in range(many):
        maker = Maker(seed + k)
        house = House(*maker.one_of(((1, 1), (2, 1), (2, 2), (3, 2))))
        for _ in range(60):
            name, told = made_step(maker, house)
            answer_of(getattr(house, name), *told)
        yield maker, house


class ImageTests(unittest.TestCase):
    def test_a_new_house(self):
        self.assertEqual(House(24, 3).image(), "house 24 3 0\n")
        self.assertEqual(load_house("house 24 3 0\n").document(0), (24, 3, ()))

    def test_the_lines(self):
        house = House(2, 1)
        house.change(("layer", "", ("tone", "low", LOOK, (KEEP,) * 4)))
        house.change(("look", "low", (0, "plain", 15, ())))
        house.go(0)
        house.change(("layer", "", ("group", "all", (1, "times", 9, ((1, 2),)), ())))
        house.mark("best")
        house.go(1)
        house.change(("group", "low", "new"))
        house.change(("remove", "new"))
        house.mark("a")
        house.go(0)
        house.mark("best")
        house.go(5)
        self.assertEqual(house.image(), text_of(TREE))
        house.undo()
        house.undo()
        self.assertEqual(house.image(), text_of(["house 2 1 1"] + TREE[1:]))
        house.go(3)
        self.assertEqual(house.image(), text_of(["house 2 1 3"] + TREE[1:6] + ["way 0 3"] + TREE[7:]))

    def test_loaded_houses_are_like_those_whose_images_they_are(self):
        for maker, house in made_houses(320, 12):
            other = load_house(house.image())
            self.assertIs(type(other), House)
            self.assertEqual(all_told(other), all_told(house))
            self.assertEqual(ways_of(other), ways_of(house))
            for _ in range(25):
                name, told = made_step(maker, house)
                self.assertEqual(answer_of(getattr(other, name), *told), answer_of(getattr(house, name), *told))
            self.assertEqual(all_told(other), all_told(house))
            self.assertEqual(ways_of(other), ways_of(house))

    def test_changes_that_are_nested_deeper_than_values_that_are_read(self):
        item = ("paint", "low", (1, "plain", 15, ((7, 15),)), LOW[3])
        for k in range(4):
            item = ("group", NAMES[k], LOOK, (item,))
        house = House(2, 1)
        house.change(("layer", "", item))
        self.assertEqual(all_told(load_house(house.image())), all_told(house))

    def test_longer_texts_and_greater_numbers(self):
        house = House(24, 24)
        picture = (((15, 14, 13, 12),) * 24,) * 24
        house.change(("layer", "", ("group", "all", LOOK, tuple(("paint", NAMES[k], LOOK, picture) for k in range(20)))))
        self.assertGreater(len(house.image()), 100000)
        self.assertEqual(all_told(load_house(house.image())), all_told(house))
        house = House(2, 1)
        house.change(("layer", "", LOW))
        house.change(("paint", "low", (("copy", ((0, 0, 0),), 12345678, -10 ** 30), ("copy", (), 10 ** 4299, 1 - 10 ** 4300))))
        self.assertEqual(all_told(load_house(house.image())), all_told(house))

    def test_a_house_of_sixty_documents(self):
        house = House(2, 1)
        house.change(("layer", "", LOW))
        for _ in range(58):
            house.change(("look", "low", LOOK))
        self.assertEqual(all_told(load_house(house.image())), all_told(house))
        lines = house.image().split("\n")[:-1]
        self.refused(lines[:60] + [lines[59].replace("58", "0", 1).replace("58", "59")] + lines[60:], 61)
        self.refused(lines[:60] + ["from 59 (look low (1 plain 15 ()))"] + lines[60:], 61)

    def refused(self, lines, at):
        text = lines if isinstance(lines, str) else text_of(lines)
        with self.assertRaises(BadForm) as caught:
            load_house(text)
        self.assertEqual(caught.exception.line, at, lines)


class WrongImageTests(unittest.TestCase):
    def refused(self, lines, at):
        text = lines if isinstance(lines, str) else text_of(lines)
        with self.assertRaises(BadForm) as caught:
            load_house(text)
        self.assertEqual(caught.exception.line, at, text)

    def with_line(self, at, line):
        return TREE[:at - 1] + [line] + TREE[at:]

    def test_the_tree(self):
        house = load_house(text_of(TREE))
        self.assertEqual(house.image(), text_of(TREE))
        self.assertEqual(ways_of(house), {0: 1, 1: 4, 4: 5})

    def test_a_line_left_out(self):
        # Without a change, a way, or a mark's document, what follows is another house or none.
        for at, wrong in ((1, 1), (2, 2), (7, 7), (8, 8), (9, 9)):
            self.refused(TREE[:at - 1] + TREE[at:], wrong)
        for at in (10, 11):
            self.assertEqual(len(load_house(text_of(TREE[:at - 1] + TREE[at:])).marked()), 1)
        self.refused(TREE[:2] + TREE[3:], 5)
        self.refused(TREE[:3] + TREE[4:], 5)
        self.refused(TREE[:4] + TREE[5:], 5)
        self.refused(TREE[:5] + TREE[6:], 8)
        for many in range(9):
            self.refused(TREE[:many], many + 1)
        for many in (9, 10, 11):
            load_house(text_of(TREE[:many]))

    def test_a_line_twice(self):
        for at in (1, 7, 8, 9, 10, 11):
            self.refused(TREE[:at] + TREE[at - 1:], at + 1)
        # The same change once more makes one more document, so that what follows comes from others.
        lines = ["house 2 1 2"] + TREE[1:2] * 3 + ["way 0 2"]
        self.assertEqual(load_house(text_of(lines)).many(), 4)
        self.refused(TREE[:2] + TREE[1:], 7)

    def test_lines_exchanged(self):
        for at, wrong in ((1, 1), (2, 2), (6, 7), (7, 7), (8, 8), (9, 9), (10, 11)):
            self.refused(TREE[:at - 1] + [TREE[at], TREE[at - 1]] + TREE[at + 1:], wrong)

    def test_the_first_line(self):
        for line in (
            "", "house", "house ", "house 2 1", "house 2 1 5 0", "house  2 1 5", "house 2 1 5 ", " house 2 1 5", "House 2 1 5", "house 2 1 05",
            "house 02 1 5", "house 2 01 5", "house 0 1 5", "house 2 0 5", "house 25 1 5", "house 2 25 5", "house -2 1 5", "house 2 1 -1", "house 2 1 a",
            "house a 1 5", "house 2 1 +5", "houses 2 1 5", "house 2 1 5.", "from 0 (remove new)", "way 0 1", "mark a 0", "house 2 1 _", "house 100 1 5",
        ):
            self.refused(self.with_line(1, line), 1)
            self.refused(line + "\n", 1)
            self.refused(line, 1)

    def test_lines_of_changes(self):
        for line in (
            "", "from", "from ", "from 1", "from 1 ", "from (remove low)", "from 1  (remove low)", "from 1 (remove low) ", " from 1 (remove low)",
            "from 01 (remove low)", "from -1 (remove low)", "from 2 (remove low)", "from a (remove low)", "from 1 (remove  low)", "from 1 (remove low",
            "from 1 remove", "from 1 (remove none)", "from 1 (odd low)", "from 1 (look low (2 plain 15 ()))", "from 0 (remove low)", "from 100 (remove low)",
            "from 1 (look low (01 plain 15 ()))", "from 1 (look low (-0 plain 15 ()))", "from 1 (group low low)", "from 1 (look low (1 plain 15 ))",
            "from 1 (group low Big)", "From 1 (remove low)", "house 2 1 5", "odd", "from 1 (paint low ())", "from 1 (group low ninesigns)", "from 9999999999 (remove low)",
            "from 1 (copy)", "from 1 ()", "from 1 _", "from 1 5", "from 1 " + "(" * 5000, "from 1 " + "(" * 5000 + ")" * 5000, "from 1 (remove " + "9" * 5000 + ")",
        ):
            self.refused(self.with_line(3, line), 3)
            self.refused(text_of(TREE[:2]) + line, 3)

    def test_ways(self):
        for line in (
            "", "way", "way ", "way 1", "way 1 4 ", "way 1  4", " way 1 4", "way 01 4", "way 1 04", "way 1 5", "way 1 3", "way 1 1", "way 1 0", "way 1 6",
            "way 1 -1", "way -1 4", "way 1 a", "way 4 5", "way 0 1", "way 2 3", "way 3 4", "Way 1 4", "way 1 4 5", "mark a 5", "from 1 (remove low)", "odd", "way 9999999 4",
        ):
            self.refused(self.with_line(8, line), 8)
            self.refused(text_of(TREE[:7]) + line, 8)
        # After the last way there is none more.
        self.refused(TREE[:9] + ["way 5 0"], 10)
        self.refused(TREE[:9] + ["way 2 3"], 10)

    def test_a_way_that_leads_away_from_the_open_document(self):
        self.refused(self.with_line(7, "way 0 3"), 7)
        self.refused(self.with_line(8, "way 1 2"), 8)
        for number, ways in ((3, ["way 0 3", "way 1 2"]), (3, ["way 0 3", "way 1 4"]), (0, ["way 0 3", "way 1 2"]), (0, ["way 0 1", "way 1 2"]), (1, ["way 0 1", "way 1 2"])):
            lines = [f"house 2 1 {number}"] + TREE[1:6] + ways + TREE[8:]
            self.assertEqual(load_house(text_of(lines)).image(), text_of(lines))
        self.refused(["house 2 1 3"] + TREE[1:], 7)
        self.refused(["house 2 1 2"] + TREE[1:], 8)
        # Off the way to the open document, ways may lead anywhere.
        lines = ["house 2 1 3"] + TREE[1:6] + ["way 0 3", "way 1 2", "way 4 5"]
        self.assertEqual(load_house(text_of(lines)).now(), 3)

    def test_the_open_document_is_none(self):
        for number in ("6", "59", "60", "999999", "1000000", "9" * 30):
            lines = [f"house 2 1 {number}"] + TREE[1:]
            self.refused(lines, 12)
            self.refused(lines[:8], 9)
            # No way leads away from it.
            self.refused(lines[:6] + ["way 0 3", "way 1 2", "way 4 5"], 10)
            self.refused(lines[:6] + ["way 0 3", "way 1 3"], 8)
            self.refused([lines[0]], 2)
            self.refused(lines[0], 1)

    def test_marks(self):
        for line in (
            "", "mark", "mark ", "mark a", "mark a 5 ", "mark  a 5", " mark a 5", "mark A 5", "mark a 05", "mark a 6", "mark a -1", "mark ninesigns 5",
            "mark a1 5", "mark _ 5", "mark  5", "mark a a", "mark 5 a", "way 5 0", "from 5 (layer _ (tone low (1 plain 15 ()) ()))", "Mark a 5", "mark a 5 6", "mark a 9999999",
        ):
            self.refused(self.with_line(10, line), 10)
        self.refused(self.with_line(11, "mark a 0"), 11)
        self.refused(self.with_line(10, "mark best 5"), 11)
        self.refused(self.with_line(10, "mark c 5"), 11)
        self.assertEqual(load_house(text_of(self.with_line(10, "mark bes 5"))).marked(), [("bes", 5), ("best", 0)])
        self.refused(["house 1 1 0", "mark a 0", "from 0 (layer _ (group all (1 plain 15 ()) ()))", "way 0 1"], 3)

    def test_newlines(self):
        text = text_of(TREE)
        self.refused(text[:-1], 11)
        self.refused(text + "\n", 12)
        self.refused("\n" + text, 1)
        self.refused(text.replace("\nway", "\n\nway", 1), 7)
        self.refused(text.replace("\nway", " way", 1), 6)
        self.refused("", 1)
        self.refused("\n", 1)
        self.refused(text_of(TREE[:9])[:-1], 9)
        self.refused(text_of(TREE[:8])[:-1], 8)
        self.refused(text + "mark z 0", 12)
        self.refused(text + " ", 12)

    def test_how_long(self):
        self.refused("x" * 200001, 0)
        self.refused("x" * 200000, 1)
        self.refused("\n" * 200001, 0)
        self.refused("\n" * 200000, 1)
        house = House(24, 24)
        picture = (((15, 14, 13, 12),) * 24,) * 24
        house.change(("layer", "", ("group", "all", LOOK, tuple(("paint", NAMES[k], LOOK, picture) for k in range(15)))))
        # The numbers of a copy tell how long its line is.
        while len(house.image()) < 195000:
            house.change(("paint", "aa", (("copy", (), 10 ** 3000, 0),)))
        other = house.copy()
        for more, line in ((0, None), (1, 0)):
            house = other.copy()
            house.change(("paint", "aa", (("copy", (), 1, 1),)))
            left = 200000 + more - len(house.image())
            house = other.copy()
            house.change(("paint", "aa", (("copy", (), 10 ** (left // 2), 10 ** (left - left // 2)),)))
            self.assertEqual(len(house.image()), 200000 + more)
            if line is None:
                self.assertEqual(all_told(load_house(house.image())), all_told(house))
            else:
                self.refused(house.image(), line)

    def test_changed_images(self):
        """What is loaded has just this image; else the first wrong line can be told from what stands ahead of it."""
        loaded = 0
        for maker, house in made_houses(340, 16):
            lines = house.image().split("\n")[:-1]
            for _ in range(60):
                other = self.changed(maker, lines)
                text = text_of(other)
                at = self.line_of(text)
                if at is None:
                    loaded += 1
                    self.assertEqual(load_house(text).image(), text)
                    continue
                self.assertTrue(1 <= at <= len(other) + 1)
                if at <= len(other):
                    self.assertEqual(self.line_of(text_of(other[:at])), at)
                    self.assertIn(self.line_of(text_of(other[:at - 1])), (at, None))
        self.assertGreater(loaded, 40)

    def changed(self, maker, lines):
        lines, at = list(lines), maker.number(0, len(lines) - 1)
        way = maker.number(0, 5)
        if way == 0:
            del lines[at]
        elif way == 1:
            lines.insert(at, lines[at])
        elif way == 2:
            other = maker.number(0, len(lines) - 1)
            lines[at], lines[other] = lines[other], lines[at]
        elif way == 3:
            words = lines[at].split(" ")
            for k, word in enumerate(words):
                if word.isdigit() and maker.number(0, 1):
                    words[k] = str(maker.number(0, 6))
            lines[at] = " ".join(words)
        elif way == 4:
            place = maker.number(0, len(lines[at]))
            lines[at] = lines[at][:place] + maker.one_of((" ", "0", "1", "a", "(", ")")) + lines[at][place + maker.number(0, 1):]
        else:
            lines.insert(maker.number(1, len(lines)), maker.one_of(("mark a 0", "mark z 1", "way 0 1", "from 0 (layer _ (group zz (1 plain 15 ()) ()))")))
        return lines

    def line_of(self, text):
        try:
            load_house(text)
        except BadForm as error:
            return error.line
        return None

    def test_what_is_handed_over_stays(self):
        self.assertRaises(NotAllowed, House, 0, 0)
        item = ("paint", "top", LOOK, TOP[3])
        house = House(2, 1)
        house.change(("layer", "", item))
        self.assertEqual(house.change_of(1), (0, ("layer", "", ("paint", "top", LOOK, TOP[3]))))


if __name__ == "__main__":
    unittest.main()
