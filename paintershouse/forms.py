"""Plain rows of deeds, and their forms: what they make of all pictures."""

from paintershouse.deeds import CARRIERS, POINTWISE, check_row, pointwise_region
from paintershouse.errors import Missing, NotAllowed
from paintershouse.pictures import points_of
from paintershouse.pixels import CLEAR
from paintershouse.regions import check_sides, is_within, points_in
from paintershouse.shades import PLAIN_SHADE, behind, fixed_pixel, shade_of, shaded


def check_doable(sides, deeds):
    """Raises NotAllowed if there are no such sides, no such row, or something else than a square is turned."""
    check_sides(sides)
    check_row(deeds)
    if sides[0] != sides[1] and ("turn",) in deeds:
        raise NotAllowed("only a square can be turned")


def check_plain(sides, deeds):
    """Raises NotAllowed if a row is not a plain row for sides."""
    check_doable(sides, deeds)
    for deed in deeds:
        if deed[0] not in POINTWISE and deed[0] not in CARRIERS:
            raise NotAllowed("not a plain row")


def sources_of(sides, deed):
    """Returns a dict of the points from which a carrier takes pixels, for all points where these are within sides."""
    wide, high = sides
    points = points_of(wide, high)
    word = deed[0]
    if word == "flip":
        return {(x, y): (wide - 1 - x, y) for x, y in points}
    if word == "fall":
        return {(x, y): (x, high - 1 - y) for x, y in points}
    if word == "turn":
        return {(x, y): (y, high - 1 - x) for x, y in points}
    if word == "copy":
        sources = {point: point for point in points}
        sources.update(copied_from(sides, deed))
        return sources
    return {(x, y): (x - deed[1], y - deed[2]) for x, y in points if is_within(sides, (x - deed[1], y - deed[2]))}


def copied_from(sides, deed):
    """Returns a dict of the points within sides to which a copy takes pixels, and of those from which it does."""
    _, region, right, down = deed
    sources = {(x + right, y + down): (x, y) for x, y in points_in(region) if is_within(sides, (x, y))}
    return {point: sources[point] for point in sources if is_within(sides, point)}


def _in_order(shades, rows):
    """Returns the form with rows of entries that name shades of a list, perhaps not all, by their places in it."""
    numbers = sorted({entry[2] for row in rows for entry in row if len(entry) == 3})
    used = sorted({shades[k] for k in numbers})
    places = {shade: at for at, shade in enumerate(used)}
    renamed = {k: places[shades[k]] for k in numbers}
    made = []
    for row in rows:
        made.append(tuple([entry if len(entry) == 4 else (entry[0], entry[1], renamed[entry[2]]) for entry in row]))
    return (tuple(used), tuple(made))


def plain_form(sides):
    """Returns the form of the row without deeds."""
    wide, high = sides
    return ((PLAIN_SHADE,), tuple([tuple([(x, y, 0) for x in range(wide)]) for y in range(high)]))


def deed_form(sides, deed):
    """Returns the form of one deed of a plain row."""
    wide, high = sides
    if deed[0] in POINTWISE:
        shade = shade_of(deed)
        pixel = fixed_pixel(shade)
        there = {(x, y): (x, y, 1) if pixel is None else pixel for x, y in points_in(pointwise_region(deed))}
        entries = {(x, y): there.get((x, y), (x, y, 0)) for x, y in points_of(wide, high)}
        return _in_order([PLAIN_SHADE, shade], _in_rows(sides, entries))
    sources = sources_of(sides, deed)
    entries = {point: sources[point] + (0,) for point in sources}
    return _in_order([PLAIN_SHADE], _in_rows(sides, entries))


def _in_rows(sides, entries):
    """Returns rows of the entries of a dict, with clear pixels where it has none."""
    wide, high = sides
    return [[entries.get((x, y), CLEAR) for x in range(wide)] for y in range(high)]


class FormBook:
    """Forms for some sides, each told as a tuple of entries, one for each point, in order.

    An entry is a pixel, or a pair of the place of a point among all and the
    number of a shade. Each two shades are put together once only, and two forms
    of one book are the same just if their entries are.
    """

    def __init__(self, sides):
        self.sides = sides
        self.shades = [PLAIN_SHADE]
        self.numbers = {PLAIN_SHADE: 0}
        self.pairs = {}

    def plain(self):
        """Returns the entries of the form of the row without deeds."""
        return tuple([(at, 0) for at in range(self.sides[0] * self.sides[1])])

    def taken(self, form):
        """Returns the entries of a form."""
        shades, rows = form
        numbers = [self._number(shade) for shade in shades]
        entries = []
        for row in rows:
            for entry in row:
                if len(entry) == 3:
                    entry = (entry[1] * self.sides[0] + entry[0], numbers[entry[2]])
                entries.append(entry)
        return tuple(entries)

    def row(self, deeds):
        """Returns the entries of the form of a plain row."""
        return self.all_behind([self.taken(deed_form(self.sides, deed)) for deed in deeds])

    def all_behind(self, forms):
        """Returns the entries of some forms, one behind another."""
        entries = self.plain()
        for form in forms:
            entries = self.put_behind(entries, form)
        return entries

    def put_behind(self, first, later):
        """Returns the entries of a form and then another one."""
        made = []
        for entry in later:
            if len(entry) == 2:
                entry = self._shaded_entry(first[entry[0]], entry[1])
            made.append(entry)
        return tuple(made)

    def entry_at(self, forms, at):
        """Returns the entry at a place of some forms, one behind another."""
        entry = (at, 0)
        for form in reversed(forms):
            if len(entry) == 2:
                entry = self._shaded_entry(form[entry[0]], entry[1])
        return entry

    def told(self, entry):
        """Returns what an entry tells: a pixel, or a pair of a point and a shade."""
        if len(entry) == 4:
            return entry
        place, number = entry
        return (self.point(place), self.shades[number])

    def point(self, place):
        """Returns the point at a place among all."""
        return (place % self.sides[0], place // self.sides[0])

    def form(self, entries):
        """Returns the form with some entries."""
        wide, high = self.sides
        made = []
        for entry in entries:
            if len(entry) == 2:
                entry = self.point(entry[0]) + (entry[1],)
            made.append(entry)
        return _in_order(self.shades, [made[y * wide:(y + 1) * wide] for y in range(high)])

    def _number(self, shade):
        """Returns the number of a shade."""
        if shade not in self.numbers:
            self.numbers[shade] = len(self.shades)
            self.shades.append(shade)
        return self.numbers[shade]

    def _shaded_entry(self, entry, number):
        """Returns what the shade with a number makes of an entry."""
        if number == 0:
            return entry
        if len(entry) == 4:
            return shaded(self.shades[number], entry)
        pair = (entry[1], number)
        if pair not in self.pairs:
            shade = behind(self.shades[entry[1]], self.shades[number])
            self.pairs[pair] = (self._number(shade), fixed_pixel(shade))
        made, pixel = self.pairs[pair]
        return (entry[0], made) if pixel is None else pixel


def form_of(sides, deeds):
    """Returns the form of a plain row."""
    check_plain(sides, deeds)
    book = FormBook(sides)
    return book.form(book.row(deeds))


def drawn_by(form, picture):
    """Returns what a row with a form makes of a picture."""
    shades, rows = form
    made = []
    for row in rows:
        pixels = []
        for entry in row:
            if len(entry) == 3:
                x, y, k = entry
                pixels.append(shaded(shades[k], picture[y][x]))
            else:
                pixels.append(entry)
        made.append(tuple(pixels))
    return tuple(made)


def form_behind(first, second):
    """Returns the form of a row with the first form and then one with the second form."""
    _, rows = first
    book = FormBook((len(rows[0]), len(rows)))
    return book.form(book.put_behind(book.taken(first), book.taken(second)))


def told_entries(form):
    """Returns a dict of what a form tells of each point: a pixel, or a pair of a point and a shade."""
    shades, rows = form
    told = {}
    for y, row in enumerate(rows):
        for x, entry in enumerate(row):
            told[(x, y)] = entry if len(entry) == 4 else ((entry[0], entry[1]), shades[entry[2]])
    return told


def least_picture(sides, first, second):
    """Returns the least picture of which two plain rows make different ones."""
    one, other = told_entries(form_of(sides, first)), told_entries(form_of(sides, second))
    wide, high = sides
    points = points_of(wide, high)
    if one == other:
        raise Missing("two rows that make the same of all pictures")
    if any([_behind_clear(one[point]) != _behind_clear(other[point]) for point in points]):
        return ((CLEAR,) * wide,) * high
    # The later the only pixel that is not clear, the less is the picture.
    last, least = (-1, -1), CLEAR
    known = {}
    for point in points:
        for source, shade, rest in _choices(one[point], other[point]):
            place = (source[1], source[0])
            if place < last:
                continue
            if (shade, rest) not in known:
                known[(shade, rest)] = _least_pixel(shade, rest)
            pixel = known[(shade, rest)]
            if place > last or pixel < least:
                last, least = place, pixel
    return tuple([tuple([least if (y, x) == last else CLEAR for x in range(wide)]) for y in range(high)])


def picture_apart(sides, one, other):
    """Returns a picture of which two rows make different pixels at a point, by the entries that are told of it."""
    wide, high = sides
    if _behind_clear(one) != _behind_clear(other):
        return ((CLEAR,) * wide,) * high
    source, shade, rest = _choices(one, other)[0]
    pixel = _least_pixel(shade, rest)
    return tuple([tuple([pixel if (x, y) == source else CLEAR for x in range(wide)]) for y in range(high)])


def _behind_clear(entry):
    """Returns the pixel that an entry tells of a clear picture."""
    if len(entry) == 4:
        return entry
    return shaded(entry[1], CLEAR)


def _choices(one, other):
    """Returns the points, each with a shade and a shade or pixel, at which a pixel may tell two entries apart."""
    if one == other:
        return []
    if len(one) == 2 and len(other) == 2 and one[0] == other[0]:
        return [(one[0], one[1], other[1])]
    # With all else clear, the other entry tells what it makes of the clear pixel.
    choices = []
    if len(one) == 2:
        choices.append((one[0], one[1], _behind_clear(other)))
    if len(other) == 2:
        choices.append((other[0], other[1], _behind_clear(one)))
    return choices


def _least_pixel(shade, rest):
    """Returns the least pixel of which a shade makes another one than a shade, or than a pixel that stays."""
    # Each colour and the cover go their own ways, so one colour at most is needed to tell the difference.
    pixels = [(0, 0, 0, cover) for cover in range(1, 16)]
    for k in (2, 1, 0):
        for level in range(1, 16):
            colours = [0, 0, 0]
            colours[k] = level
            pixels.extend([tuple(colours) + (cover,) for cover in range(1, 16)])
    if len(rest) == 4:
        return min([pixel for pixel in pixels if shaded(shade, pixel) != rest])
    return min([pixel for pixel in pixels if shaded(shade, pixel) != shaded(rest, pixel)])
