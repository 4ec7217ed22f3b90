"""Plain rows of deeds, and their forms: what they make of all pictures."""

from paintershouse.deeds import CARRIERS, POINTWISE, check_row, pointwise_region
from paintershouse.errors import Missing, NotAllowed
from paintershouse.pictures import points_of
from paintershouse.pixels import CLEAR
from paintershouse.regions import check_sides, is_within, points_in
from paintershouse.shades import PLAIN_SHADE, behind, fixed_pixel, shade_of, shaded


def check_doable(sides, deeds):
    """Raises NotAllowed if there are no such sides, no such row, or something else than a square is turned."""
    check_sides(sides)
    check_row(deeds)
    if sides[0] != sides[1] and ("turn",) in deeds:
        raise NotAllowed("only a square can be turned")


def check_plain(sides, deeds):
    """Raises NotAllowed if a row is not a plain row for sides."""
    check_doable(sides, deeds)
    for deed in deeds:
        if deed[0] not in POINTWISE and deed[0] not in CARRIERS:
            raise NotAllowed("not a plain row")


def sources_of(sides, deed):
    """Returns a dict of the points from which a carrier takes pixels, for all points where these are within sides."""
    wide, high = sides
    points = points_of(wide, high)
    word = deed[0]
    if word == "flip":
        return {(x, y): (wide - 1 - x, y) for x, y in points}
    if word == "fall":
        return {(x, y): (x, high - 1 - y) for x, y in points}
    if word == "turn":
        return {(x, y): (y, high - 1 - x) for x, y in points}
    if word == "copy":
        sources = {point: point for point in points}
        sources.update(copied_from(sides, deed))
        return sources
    return {(x, y): (x - deed[1], y - deed[2]) for x, y in points if is_within(sides, (x - deed[1], y - deed[2]))}


def copied_from(sides, deed):
    """Returns a dict of the points within sides to which a copy takes pixels, and of those from which it does."""
    _, region, right, down = deed
    sources = {(x + right, y + down): (x, y) for x, y in points_in(region) if is_within(sides, (x, y))}
    return {point: sources[point] for point in sources if is_within(sides, point)}


def _in_order(shades, rows):
    """Returns the form with rows of entries that name shades of a list, perhaps not all, by their places in it."""
    numbers = sorted({entry[2] for row in rows for entry in row if len(entry) == 3})
    used = sorted({shades[k] for k in numbers})
    places = {shade: at for at, shade in enumerate(used)}
    renamed = {k: places[shades[k]] for k in numbers}
    made = []
    for row in rows:
        made.append(tuple([entry if len(entry) == 4 else (entry[0], entry[1], renamed[entry[2]]) for entry in row]))
    return (tuple(used), tuple(made))


def plain_form(sides):
    """Returns the form of the row without deeds."""
    wide, high = sides
    return ((PLAIN_SHADE,), tuple([tuple([(x, y, 0) for x in range(wide)]) for y in range(high)]))


def deed_form(sides, deed):
    """Returns the form of one deed of a plain row."""
    wide, high = sides
    if deed[0] in POINTWISE:
        shade = shade_of(deed)
        pixel = fixed_pixel(shade)
        there = {(x, y): (x, y, 1) if pixel is None else pixel for x, y in points_in(pointwise_region(deed))}
        entries = {(x, y): there.get((x, y), (x, y, 0)) for x, y in points_of(wide, high)}
        return _in_order([PLAIN_SHADE, shade], _in_rows(sides, entries))
    sources = sources_of(sides, deed)
    entries = {point: sources[point] + (0,) for point in sources}
    return _in_order([PLAIN_SHADE], _in_rows(sides, entries))


def _in_rows(sides, entries):
    """Returns rows of the entries of a dict, with clear pixels where it has none."""
    wide, high = sides
    return [[entries.get((x, y), CLEAR) for x in range(wide)] for y in range(high)]


def form_of(sides, deeds):
    """Returns the form of a plain row."""
    check_plain(sides, deeds)
    form = plain_form(sides)
    for deed in deeds:
        form = form_behind(form, deed_form(sides, deed))
    return form


def drawn_by(form, picture):
    """Returns what a row with a form makes of a picture."""
    shades, rows = form
    made = []
    for row in rows:
        pixels = []
        for entry in row:
            if len(entry) == 3:
                x, y, k = entry
                pixels.append(shaded(shades[k], picture[y][x]))
            else:
                pixels.append(entry)
        made.append(tuple(pixels))
    return tuple(made)


def form_behind(first, second):
    """Returns the form of a row with the first form and then one with the second form."""
    shades, rows = first
    later_shades, later_rows = second
    # What comes of each pair of shades is found once; a pixel stands for a fixed shade.
    both, made, found = {}, [], []
    for later_row in later_rows:
        entries = []
        for entry in later_row:
            if len(entry) == 4:
                entries.append(entry)
                continue
            x, y, k = entry
            source = rows[y][x]
            if len(source) == 4:
                entries.append(shaded(later_shades[k], source))
                continue
            pair = (source[2], k)
            if pair not in both:
                shade = behind(shades[source[2]], later_shades[k])
                both[pair] = (len(made), fixed_pixel(shade))
                made.append(shade)
            number, pixel = both[pair]
            entries.append((source[0], source[1], number) if pixel is None else pixel)
        found.append(entries)
    return _in_order(made, found)


def told_entries(form):
    """Returns a dict of what a form tells of each point: a pixel, or a pair of a point and a shade."""
    shades, rows = form
    told = {}
    for y, row in enumerate(rows):
        for x, entry in enumerate(row):
            told[(x, y)] = entry if len(entry) == 4 else ((entry[0], entry[1]), shades[entry[2]])
    return told


def least_picture(sides, first, second):
    """Returns the least picture of which two plain rows make different ones."""
    one, other = told_entries(form_of(sides, first)), told_entries(form_of(sides, second))
    wide, high = sides
    points = points_of(wide, high)
    if one == other:
        raise Missing("two rows that make the same of all pictures")
    if any([_behind_clear(one[point]) != _behind_clear(other[point]) for point in points]):
        return ((CLEAR,) * wide,) * high
    # The later the only pixel that is not clear, the less is the picture.
    last, least = (-1, -1), CLEAR
    known = {}
    for point in points:
        for source, shade, rest in _choices(one[point], other[point]):
            place = (source[1], source[0])
            if place < last:
                continue
            if (shade, rest) not in known:
                known[(shade, rest)] = _least_pixel(shade, rest)
            pixel = known[(shade, rest)]
            if place > last or pixel < least:
                last, least = place, pixel
    return tuple([tuple([least if (y, x) == last else CLEAR for x in range(wide)]) for y in range(high)])


def _behind_clear(entry):
    """Returns the pixel that an entry tells of a clear picture."""
    if len(entry) == 4:
        return entry
    return shaded(entry[1], CLEAR)


def _choices(one, other):
    """Returns the points, each with a shade and a shade or pixel, at which a pixel may tell two entries apart."""
    if one == other:
        return []
    if len(one) == 2 and len(other) == 2 and one[0] == other[0]:
        return [(one[0], one[1], other[1])]
    # With all else clear, the other entry tells what it makes of the clear pixel.
    choices = []
    if len(one) == 2:
        choices.append((one[0], one[1], _behind_clear(other)))
    if len(other) == 2:
        choices.append((other[0], other[1], _behind_clear(one)))
    return choices


def _least_pixel(shade, rest):
    """Returns the least pixel of which a shade makes another one than a shade, or than a pixel that stays."""
    # Each colour and the cover go their own ways, so one colour at most is needed to tell the difference.
    pixels = [(0, 0, 0, cover) for cover in range(1, 16)]
    for k in (2, 1, 0):
        for level in range(1, 16):
            colours = [0, 0, 0]
            colours[k] = level
            pixels.extend([tuple(colours) + (cover,) for cover in range(1, 16)])
    if len(rest) == 4:
        return min([pixel for pixel in pixels if shaded(shade, pixel) != rest])
    return min([pixel for pixel in pixels if shaded(shade, pixel) != shaded(rest, pixel)])
