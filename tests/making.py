"""Inputs that the tests make themselves, the same ones in each run."""

import itertools

MODES = ("plain", "darker", "lighter", "times", "screen", "apart")

NAMES = [chr(97 + k // 26) + chr(97 + k % 26) for k in range(40)]


class Maker:
    """Makes numbers, and what is built of them, from a seed alone."""

    def __init__(self, seed):
        self.state = seed * 2654435761 % 2 ** 32

    def number(self, low, high):
        """Returns an integer from low to high."""
        self.state = (self.state * 6364136223846793005 + 1442695040888963407) % 2 ** 64
        return low + (self.state >> 33) % (high - low + 1)

    def pixel(self):
        """Returns a pixel, clear ones and those of full cover among them."""
        cover = (0, 15, self.number(1, 15))[self.number(0, 2)]
        if cover == 0:
            return (0, 0, 0, 0)
        return (self.number(0, 15), self.number(0, 15), self.number(0, 15), cover)

    def picture(self, wide, high):
        """Returns a picture with these sides."""
        return tuple(tuple(self.pixel() for _ in range(wide)) for _ in range(high))

    def few_pixels(self, many):
        """Returns an ascending tuple of so many different pixels."""
        pixels = set()
        while len(pixels) < many:
            pixels.add(self.pixel())
        return tuple(sorted(pixels))

    def picture_of(self, wide, high, pixels):
        """Returns a picture of some pixels, which often stand side by side."""
        rows, pixel = [], pixels[0]
        for _ in range(high):
            row = []
            for _ in range(wide):
                if self.number(0, 1):
                    pixel = self.one_of(pixels)
                row.append(pixel)
            rows.append(tuple(row))
        return tuple(rows)

    def film(self, wide, high, many, most):
        """Returns a film of so many frames, of few pictures that often stand side by side, with times up to a greatest one."""
        pictures = [self.picture_of(wide, high, self.few_pixels(2)) for _ in range(3)]
        frames = []
        for _ in range(many):
            frames.append((self.one_of(pictures), self.number(1, most)))
        return tuple(frames)

    def points(self, wide, high, percent):
        """Returns the set of about so many percent of the points within sides."""
        return {
            (x, y) for y in range(high) for x in range(wide)
            if self.number(0, 99) < percent
        }

    def stencil(self, reach, percent, middle):
        """Returns a stencil that has (0, 0) just if it should."""
        pairs = {
            (dx, dy) for dx in range(-reach, reach + 1) for dy in range(-reach, reach + 1)
            if self.number(0, 99) < percent
        }
        pairs.discard((0, 0))
        if middle:
            pairs.add((0, 0))
        return tuple(sorted(pairs))

    def one_of(self, values):
        """Returns one of some values that stand in order."""
        return values[self.number(0, len(values) - 1)]

    def region(self, wide, high):
        """Returns a region that may reach one point beyond a picture with these sides."""
        return plain_region(self.points(min(wide + 1, 24), min(high + 1, 24), self.one_of((0, 20, 60, 100))))

    def tables(self):
        """Returns four tables, those that keep all levels, and that make all covers 0, among them."""
        tables = [tuple(self.number(0, 15) for _ in range(16)) for _ in range(4)]
        if self.number(0, 2) == 0:
            tables[self.number(0, 3)] = tuple(range(16))
        if self.number(0, 3) == 0:
            tables[3] = (self.number(0, 1) * 7,) + (0,) * 15
        return tuple(tables)

    def path(self, wide, high):
        """Returns a path in and about a picture with these sides."""
        many = self.one_of((1, 1, 2, 3, 5))
        return tuple((self.number(-3, wide + 2), self.number(-3, high + 2)) for _ in range(many))

    def deed(self, word, wide, high):
        """Returns a deed with this word, for a picture with these sides."""
        if word in ("flip", "fall", "turn"):
            return (word,)
        if word == "move":
            return (word, self.number(-wide - 1, wide + 1), self.number(-high - 1, high + 1))
        paint = (self.pixel(), self.one_of(MODES), self.one_of((0, 15, self.number(1, 14))))
        if word == "stroke":
            brush = (self.one_of(("round", "square")), self.number(0, 3))
            return (word, self.path(wide, high), brush) + paint
        if word == "flood":
            start = (self.number(0, min(wide, 23)), self.number(0, min(high, 23)))
            return (word, start) + paint + (self.one_of((0, 15, self.number(1, 14))),)
        region = self.region(wide, high)
        if word == "fill":
            return (word, region) + paint
        if word == "erase":
            return (word, region, self.one_of((0, 15, self.number(1, 14))))
        if word == "tone":
            return (word, region, self.tables())
        if word == "copy":
            return (word, region, self.number(-wide, wide), self.number(-high, high))
        return (word, region, self.number(1, 3))

    def plain_row(self, wide, high, many):
        """Returns a plain row of so many deeds, of which few hide what was there."""
        words = ["erase", "tone", "fill", "stroke", "move", "flip", "fall", "copy", "erase", "copy"]
        if wide == high:
            words.append("turn")
        deeds = [self.deed(self.one_of(words), wide, high) for _ in range(many)]
        return tuple(self.softer(deed, wide, high) for deed in deeds)

    def busy_row(self, wide, high, many):
        """Returns a plain row of so many deeds that mostly do something, and hide little of what was there."""
        deeds = []
        for _ in range(many):
            region = plain_region(self.points(wide, high, 60))
            word = self.one_of(("fill", "fill", "erase", "tone", "copy", "flip", "fall"))
            if word == "fill":
                deeds.append((word, region, self.pixel(), self.one_of(MODES), self.one_of((15, 9, 5))))
            elif word == "erase":
                deeds.append((word, region, self.number(1, 15)))
            elif word == "tone":
                deeds.append((word, region, self.shuffled_tables()))
            elif word == "copy":
                deeds.append((word, region, self.number(-1, 1), self.number(-1, 1)))
            else:
                deeds.append((word,))
        return tuple(deeds)

    def softer(self, deed, wide, high):
        """Returns a deed; most moves go nowhere, most tables have each level once, most fills are half seen."""
        if deed[0] == "move" and self.number(0, 2):
            return self.one_of((("move", 0, 0), ("flip",), ("fall",)))
        if deed[0] == "tone" and self.number(0, 2):
            return ("tone", deed[1], self.shuffled_tables())
        if deed[0] in ("fill", "stroke") and self.number(0, 1):
            return deed[:-1] + (self.number(0, 8),)
        return deed

    def shuffled_tables(self):
        """Returns four tables that have each level once, and keep the cover 0."""
        tables = []
        for k in range(4):
            levels = list(range(16))
            for _ in range(self.number(0, 6)):
                one, other = self.number(k // 3, 15), self.number(k // 3, 15)
                levels[one], levels[other] = levels[other], levels[one]
            tables.append(tuple(levels))
        return tuple(tables)

    def mask(self, wide, high):
        """Returns a mask, the empty one among them."""
        if self.number(0, 2):
            return ()
        return tuple(tuple(self.one_of((0, 15, self.number(0, 15))) for _ in range(wide)) for _ in range(high))

    def look(self, wide, high):
        """Returns a look; most layers are shown, and many at the full level."""
        shown = 0 if self.number(0, 5) == 0 else 1
        return (shown, self.one_of(MODES), self.one_of((15, 15, 0, self.number(1, 14))), self.mask(wide, high))

    def layers(self, wide, high, names, deep):
        """Returns layers with these names, with groups at most so deep."""
        made = []
        while names:
            name, names = names[0], names[1:]
            kind = self.one_of(("paint", "paint", "tone", "group"))
            look = self.look(wide, high)
            if kind == "paint" or (kind == "group" and deep == 0):
                made.append(("paint", name, look, self.picture(wide, high)))
            elif kind == "tone":
                made.append((kind, name, look, self.tables()))
            else:
                many = self.number(0, len(names))
                made.append((kind, name, look, self.layers(wide, high, names[:many], deep - 1)))
                names = names[many:]
        return tuple(made)

    def document(self, wide, high, many):
        """Returns a document with so many layers."""
        return (wide, high, self.layers(wide, high, NAMES[:many], 4))


GREYS = [(0, 0, 0, 0)] + [(level, level, level, cover) for cover in range(1, 16) for level in range(16)]


def dot(wide, high, point, pixel):
    """Returns the picture that is clear but for one pixel."""
    return tuple(tuple(pixel if (x, y) == point else (0, 0, 0, 0) for x in range(wide)) for y in range(high))


def plain_region(points):
    """Returns the region of a set of points, told run by run."""
    runs = []
    for x, y in points:
        if (x - 1, y) not in points:
            last = x
            while (last + 1, y) in points:
                last += 1
            runs.append((y, x, last))
    return tuple(sorted(runs))


def all_point_sets(wide, high):
    """Yields each set of points within sides."""
    grid = [(x, y) for y in range(high) for x in range(wide)]
    for bits in itertools.product((0, 1), repeat=len(grid)):
        yield {point for point, bit in zip(grid, bits) if bit}
