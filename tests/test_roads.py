"""What the document promises over the whole program: one picture by many roads."""

import itertools
import unittest

from paintershouse.deeds import done_all
from paintershouse.desk import run_script
from paintershouse.errors import Missing, PaintError
from paintershouse.exchange import least_part, needless, one_deed
from paintershouse.films import cut_film, joined, look_alike, looped_at, root_of, seen_at, strung
from paintershouse.footprints import are_apart
from paintershouse.forgetting import undoing
from paintershouse.formats import code_of, least_code, read_code, seen_of
from paintershouse.forms import drawn_by, form_of
from paintershouse.hands import dispute
from paintershouse.house import House, load_house
from paintershouse.layers import layer, over_all, pixel_told, seen
from paintershouse.makers import makers
from paintershouse.merging import clash, merged, merges
from paintershouse.opened import filled
from paintershouse.pictures import blank, differing, pixel_at, points_of
from paintershouse.rebasing import rebased
from paintershouse.regions import points_in
from paintershouse.sight import Sight, has_there, touched
from paintershouse.texts import picture_text, read_picture
from paintershouse.threeways import film_clash, merged_film
from paintershouse.values import read_value, value_text
from tests.making import Maker
from tests.test_house import answer_of, made_step

SIDES = ((1, 1), (2, 1), (2, 2), (3, 2))


def walked(seed, steps):
    """A house, behind each step of a walk."""
    maker = Maker(seed)
    house = House(*maker.one_of(SIDES))
    for _ in range(steps):
        name, told = made_step(maker, house)
        answer_of(getattr(house, name), *told)
        yield maker, house


def painted_house(maker, wide, high):
    """A house with two paint layers, the lower one of which is called low."""
    house = House(wide, high)
    house.change(("layer", "", ("paint", "low", (1, "plain", 15, ()), maker.picture(wide, high))))
    house.change(("layer", "low", ("paint", "top", maker.look(wide, high), maker.picture(wide, high))))
    return house


def low(house):
    return layer(house.document(house.now()), "low")[3]


class OnePictureTests(unittest.TestCase):
    def test_many_roads(self):
        for seed in range(12):
            sight = None
            for maker, house in walked(500 + seed, 45):
                document, picture = house.document(house.now()), house.seen()
                wide, high, told = document
                self.assertEqual(seen(document), picture)
                loaded = load_house(house.image())
                self.assertEqual(loaded.seen(), picture)
                self.assertEqual(house.copy().seen(), picture)
                at = maker.number(0, len(told))
                self.assertEqual(over_all(over_all(blank(wide, high), told[:at]), told[at:]), picture)
                for x, y in points_of(wide, high):
                    self.assertEqual(pixel_told(has_there(document, (x, y)), ()), picture[y][x])
                if sight is None:
                    sight = Sight(document, maker.number(1, 3))
                sight.exchange(document)
                view = (maker.number(-1, wide), maker.number(-1, high), maker.number(1, 4), maker.number(1, 4))
                self.assertEqual(sight.look(view), tuple(
                    tuple(pixel_at(picture, (x, y)) for x in range(view[0], view[0] + view[2])) for y in range(view[1], view[1] + view[3])
                ))
                self.assertEqual(sight.look((0, 0, wide, high)), picture)
                self.assertEqual(read_picture(picture_text(picture)), picture)
                for kind in range(6):
                    self.assertEqual(read_code(code_of(picture, kind)), (kind, picture))
                self.assertEqual(read_code(least_code(picture))[1], picture)
                self.assertEqual(seen_of(code_of(picture, 5)), (picture, wide * high))
                self.assertEqual(read_value(value_text(picture)), picture)

    def test_by_the_desk(self):
        for seed in range(10):
            for maker, house in walked(520 + seed, 25):
                pass
            wide, high, _ = house.document(0)
            number, lines = house.now(), [f"house {wide} {high}"]
            for k in range(1, house.many()):
                origin, change = house.change_of(k)
                lines += [f"go {origin}", "do " + value_text(change)]
            lines += [f"go {number}"] + [f"row {y}" for y in range(high)]
            script = "\n".join(lines)
            if len(lines) <= 100 and len(script) <= 20000:
                rows = run_script(script)[-high:]
                self.assertEqual("".join(row + "\n" for row in rows), picture_text(house.seen()))

    def test_sights_of_documents_gone_to_and_fro(self):
        for seed in range(8):
            for maker, house in walked(530 + seed, 40):
                pass
            wide, high, _ = house.document(0)
            sight = Sight(house.document(0), 1)
            last = house.document(0)
            for _ in range(30):
                house.go(maker.number(0, house.many() - 1))
                document = house.document(house.now())
                apart = touched(last, document, 1)
                for point in differing(seen(last), seen(document)):
                    self.assertIn(point, apart)
                sight.exchange(document)
                self.assertEqual(sight.look((0, 0, wide, high)), house.seen())
                last = document

    def test_open_layers_filled_with_what_was_painted(self):
        maker = Maker(540)
        for _ in range(40):
            wide, high = maker.one_of(SIDES)
            house = painted_house(maker, wide, high)
            document, row = house.document(2), maker.plain_row(wide, high, 2)
            house.change(("paint", "low", row))
            made = drawn_by(form_of((wide, high), row), layer(document, "low")[3])
            self.assertEqual(seen(filled(document, ("low",), (made,))), house.seen())


class DeedsOnLayersTests(unittest.TestCase):
    def test_undoings(self):
        """Deeds and their undoings on a layer show what was seen ahead of them."""
        undone = 0
        maker = Maker(550)
        for _ in range(150):
            sides = maker.one_of(((2, 2), (3, 2), (1, 3)))
            house = painted_house(maker, *sides)
            row = tuple(
                deed if maker.number(0, 2) else ("tone", maker.region(*sides), maker.shuffled_tables())
                for deed in maker.plain_row(*sides, maker.number(1, 3))
            )
            try:
                back = undoing(sides, row)
            except Missing:
                continue
            undone += 1
            before = house.seen()
            house.change(("paint", "low", row))
            house.change(("paint", "low", back))
            self.assertEqual(house.seen(), before)
            house.undo()
            house.undo()
            self.assertEqual(house.seen(), before)
        self.assertGreater(undone, 30)

    def test_least_parts_needless_deeds_and_one_deed(self):
        maker = Maker(551)
        for _ in range(80):
            sides = maker.one_of(SIDES)
            house = painted_house(maker, *sides)
            row = maker.plain_row(*sides, maker.number(0, 5))
            house.change(("paint", "low", row))
            wanted = house.seen()
            others = [tuple(row[k] for k in least_part(sides, row))]
            others += [row[:k] + row[k + 1:] for k in needless(sides, row)]
            try:
                others.append((one_deed(sides, row),))
            except Missing:
                pass
            for other in others:
                house.undo()
                house.change(("paint", "low", other))
                self.assertEqual(house.seen(), wanted)
            self.assertEqual(house.many(), 4 + len(others))

    def test_deeds_carried_over(self):
        maker = Maker(552)
        for _ in range(60):
            sides = maker.one_of(SIDES)
            house = painted_house(maker, *sides)
            deeds = tuple(maker.deed(maker.one_of(("fill", "erase", "tone", "stroke")), *sides) for _ in range(3))
            movers = tuple(maker.deed(maker.one_of(("flip", "fall", "move")), *sides) for _ in range(2))
            house.change(("paint", "low", deeds + movers))
            wanted = house.seen()
            house.undo()
            house.change(("paint", "low", movers + rebased(sides, deeds, movers)))
            self.assertEqual(house.seen(), wanted)


class BranchesTests(unittest.TestCase):
    """Hands on branches of a house: each one goes on from the same document."""

    def branches(self, seed, many):
        maker = Maker(seed)
        for k in range(many):
            sides = maker.one_of(SIDES)
            row = maker.plain_row if k % 2 else maker.busy_row
            yield maker, sides, painted_house(maker, *sides), tuple(row(*sides, maker.number(0, 2)) for _ in range(maker.number(2, 3)))

    def test_hands(self):
        apart = agreed = 0
        for _, sides, house, hands in self.branches(560, 80):
            made = []
            for order in itertools.permutations(range(len(hands))):
                house.go(2)
                for k in order:
                    house.change(("paint", "low", hands[k]))
                made.append(low(house))
            region = points_in(dispute(sides, hands))
            agreed += region == []
            for picture in made:
                points = differing(made[0], picture)
                apart += len(points)
                for point in points:
                    self.assertIn(point, region)
        self.assertGreater(min(apart, agreed), 20)

    def test_rows_that_are_apart_do_not_clash(self):
        fitting = 0
        for _, sides, house, hands in self.branches(561, 150):
            first, second = hands[:2]
            if are_apart(sides, first, second):
                self.assertEqual(dispute(sides, (first, second)), ())
            if clash(sides, (), first, second) == ():
                fitting += 1
                house.change(("paint", "low", merged(sides, (), first, second)))
                wanted = house.seen()
                house.undo()
                house.change(("paint", "low", second))
                house.change(("paint", "low", first))
                self.assertEqual(house.seen(), wanted)
        self.assertGreater(fitting, 30)

    def test_merges(self):
        """Whatever way two rows are put together, it makes what one of the merges makes."""
        for _, sides, house, hands in self.branches(562, 60):
            first, second = hands[:2]
            made = []
            for way in merges(sides, first, second):
                rows = [list(first), list(second)]
                house.go(2)
                house.change(("paint", "low", tuple(rows[k].pop(0) for k in way)))
                made.append(low(house))
            many = len(first) + len(second)
            for places in itertools.combinations(range(many), len(second)):
                rows = [list(first), list(second)]
                row = tuple(rows[1 if k in places else 0].pop(0) for k in range(many))
                self.assertIn(done_all(low_of(house), row), made)

    def test_makers(self):
        for _, sides, house, hands in self.branches(563, 50):
            row = hands[0] + hands[1]
            house.change(("paint", "low", row))
            whole = low(house)
            for k in range(len(row)):
                house.undo()
                house.change(("paint", "low", row[:k] + row[k + 1:]))
                for point in differing(whole, low(house)):
                    self.assertIn(k, makers(sides, row, point))

    def test_films_of_branches(self):
        """Two branches are merged as films, just as the house shows them, frame by frame."""
        merged_ones = 0
        for maker, sides, house, hands in self.branches(564, 120):
            films = []
            for hand in hands[:2]:
                house.go(2)
                frames = [(house.seen(), 2)]
                house.change(("paint", "low", hand))
                frames.append((house.seen(), 3))
                films.append(tuple(frames))
            base = (films[0][0], (films[0][0][0], 3))
            try:
                film = merged_film(base, *films)
            except PaintError:
                self.assertNotEqual(film_clash(base, *films), [])
                continue
            merged_ones += 1
            for point in points_of(*sides):
                pixels = {pixel_at(one[1][0], point) for one in films + [base]}
                self.assertIn(pixel_at(film[1][0], point), pixels)
        self.assertGreater(merged_ones, 20)


def low_of(house):
    """The picture of the lower layer ahead of what hands did to it."""
    return layer(house.document(2), "low")[3]


class FilmsTests(unittest.TestCase):
    def test_a_house_as_a_film(self):
        for seed in range(10):
            frames = [(house.seen(), 1 + maker.number(0, 2)) for maker, house in walked(570 + seed, 30)]
            film = tuple(frames)
            length = sum(time for _, time in film)
            self.assertIs(look_alike(film, joined(film)), True)
            root = root_of(film)
            for time in range(length):
                self.assertEqual(looped_at(root, time), seen_at(film, time))
            parts = [cut_film(film, 0, length // 2), cut_film(film, length // 2, length)]
            self.assertIs(look_alike(strung(parts), film), True)
            for picture, _ in film:
                self.assertEqual(read_code(least_code(picture))[1], picture)


if __name__ == "__main__":
    unittest.main()
