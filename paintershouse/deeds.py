"""Deeds and rows of deeds, and what they make of pictures."""

from paintershouse.errors import NotAllowed
from paintershouse.flooding import flooded
from paintershouse.pictures import MAX_SIDE, cut_out, flipped, size_of, turned
from paintershouse.pixels import CLEAR, MODES, blended, faded, is_level, is_pixel
from paintershouse.regions import is_region, is_within, points_in
from paintershouse.strokes import is_brush, is_path, stroke_region
from paintershouse.values import is_nested

MAX_DEEDS = 40
MAX_NEAR = 3
POINTWISE = ("fill", "erase", "tone", "stroke")
CARRIERS = ("move", "flip", "fall", "turn", "copy")
NEIGHBOURS = ("mean", "swell")
SEEKERS = ("flood",)

# What stands behind the word of each deed.
PARTS = {
    "fill": ("region", "pixel", "mode", "level"),
    "erase": ("region", "level"),
    "tone": ("region", "tables"),
    "stroke": ("path", "brush", "pixel", "mode", "level"),
    "move": ("shift", "shift"),
    "flip": (),
    "fall": (),
    "turn": (),
    "copy": ("region", "integer", "integer"),
    "mean": ("region", "reach"),
    "swell": ("region", "reach"),
    "flood": ("start", "pixel", "mode", "level", "level"),
}


def check_deed(deed):
    """Raises NotAllowed if a tuple is not a deed."""
    if not deed or deed[0] not in PARTS:
        raise NotAllowed("not the word of a deed")
    wanted = PARTS[deed[0]]
    if len(deed) != len(wanted) + 1:
        raise NotAllowed("a deed with other parts")
    for k, name in enumerate(wanted):
        if not _is_part(name, deed[k + 1]):
            raise NotAllowed(f"a deed with a wrong {name}")


def _is_part(name, part):
    """Tells whether a value is such a part of a deed."""
    if name == "region":
        return is_region(part)
    if name == "pixel":
        return is_pixel(part)
    if name == "mode":
        return part in MODES
    if name == "level":
        return is_level(part)
    if name == "tables":
        return are_tables(part)
    if name == "path":
        return is_path(part)
    if name == "brush":
        return is_brush(part)
    if name == "shift":
        return -MAX_SIDE <= part <= MAX_SIDE
    if name == "reach":
        return 1 <= part <= MAX_NEAR
    if name == "start":
        return len(part) == 2 and is_within((MAX_SIDE, MAX_SIDE), part)
    # By which integers pixels are copied has no limits.
    return True


def is_built_row(value):
    """Tells whether a value is a tuple of tuples that are built like deeds, whatever their parts tell."""
    return isinstance(value, tuple) and all([_is_built_deed(part) for part in value])


def _is_built_deed(value):
    if not isinstance(value, tuple) or not value or not isinstance(value[0], str) or value[0] not in PARTS:
        return False
    wanted = PARTS[value[0]]
    if len(value) != len(wanted) + 1:
        return False
    return all([_is_built_part(name, value[k + 1]) for k, name in enumerate(wanted)])


def _is_built_part(name, part):
    """Tells whether a value has the kind of such a part of a deed."""
    if name == "mode":
        return isinstance(part, str)
    if name == "brush":
        return isinstance(part, tuple) and len(part) == 2 and isinstance(part[0], str) and isinstance(part[1], int)
    if name == "region":
        return is_nested(part, 2) and all([len(run) == 3 for run in part])
    if name == "path":
        return is_nested(part, 2) and all([len(point) == 2 for point in part])
    if name == "start":
        return is_nested(part, 1) and len(part) == 2
    if name == "tables":
        return is_nested(part, 2)
    return is_nested(part, 1 if name == "pixel" else 0)


def are_tables(tables):
    """Tells whether a tuple of tuples of integers is four tables."""
    if len(tables) != 4:
        return False
    for table in tables:
        if len(table) != 16 or not all([is_level(level) for level in table]):
            return False
    return True


def check_row(deeds):
    """Raises NotAllowed if a tuple of tuples is not a row of deeds."""
    if len(deeds) > MAX_DEEDS:
        raise NotAllowed("too many deeds")
    for deed in deeds:
        check_deed(deed)


def _check_turns(picture, deeds):
    wide, high = size_of(picture)
    if wide != high and ("turn",) in deeds:
        raise NotAllowed("only a square can be turned")


def flood_region(picture, point, tolerance):
    """Returns the region that is found from a start, which may be outside of the picture."""
    if not is_within(size_of(picture), point):
        return ()
    return flooded(picture, point, tolerance, 4)


def done(picture, deed):
    """Returns the picture behind a deed."""
    check_deed(deed)
    _check_turns(picture, (deed,))
    return _made(picture, deed)


def done_all(picture, deeds):
    """Returns the picture behind a row of deeds."""
    check_row(deeds)
    _check_turns(picture, deeds)
    for deed in deeds:
        picture = _made(picture, deed)
    return picture


def _made(picture, deed):
    """Returns the picture behind a deed that can be done."""
    word = deed[0]
    if word in NEIGHBOURS:
        return _with_pixels(picture, _pixels_of_boxes(picture, deed))
    if word == "copy":
        return _with_pixels(picture, _copied_pixels(picture, deed))
    if word in CARRIERS:
        return _carried(picture, deed)
    if word in SEEKERS:
        region = flood_region(picture, deed[1], deed[5])
    else:
        region = pointwise_region(deed)
    points = _points_there(picture, region)
    return _with_pixels(picture, {(x, y): made_there(deed, picture[y][x]) for x, y in points})


def _with_pixels(picture, pixels):
    """Returns a picture with other pixels at the points of a dict."""
    wide, high = size_of(picture)
    return tuple([tuple([pixels.get((x, y), picture[y][x]) for x in range(wide)]) for y in range(high)])


def _points_there(picture, region):
    """Returns the list of those points of a region that are in a picture."""
    sides = size_of(picture)
    return [point for point in points_in(region) if is_within(sides, point)]


def pointwise_region(deed):
    """Returns the region of a pointwise deed, of a stroke also beyond the picture."""
    if deed[0] == "stroke":
        return stroke_region(deed[1], deed[2])
    return deed[1]


def made_there(deed, pixel):
    """Returns what a pointwise deed, or a flood, makes of a pixel at a point of its region."""
    word = deed[0]
    if word == "erase":
        return faded(pixel, deed[2])
    if word == "tone":
        return toned(pixel, deed[2])
    first = 3 if word == "stroke" else 2
    above, mode, level = deed[first:first + 3]
    return blended(mode, pixel, above, level)


def toned(pixel, tables):
    """Returns what four tables make of a pixel."""
    levels = tuple([table[level] for table, level in zip(tables, pixel)])
    if levels[3] == 0:
        return CLEAR
    return levels


def _carried(picture, deed):
    """Returns the picture behind a carrier that takes all pixels with it."""
    word = deed[0]
    if word == "flip":
        return flipped(picture)
    if word == "fall":
        return picture[::-1]
    if word == "turn":
        return turned(picture)
    wide, high = size_of(picture)
    return cut_out(picture, -deed[1], -deed[2], wide, high)


def _copied_pixels(picture, deed):
    """Returns a dict of the pixels that are copied, also to points outside of the picture."""
    _, region, right, down = deed
    return {(x + right, y + down): picture[y][x] for x, y in _points_there(picture, region)}


def _pixels_of_boxes(picture, deed):
    """Returns a dict of the pixels that a neighbour makes at the points of its region."""
    word, region, reach = deed
    side = 2 * reach + 1
    pixels = {}
    for point in _points_there(picture, region):
        box = _box(picture, point, reach)
        pixels[point] = mean_pixel(box, side * side) if word == "mean" else _fullest(box)
    return pixels


def _box(picture, point, reach):
    """Returns the list of the pixels of a box, but for those outside: these are clear, and count for nothing."""
    x, y = point
    rows = picture[max(0, y - reach):y + reach + 1]
    return [pixel for row in rows for pixel in row[max(0, x - reach):x + reach + 1]]


def mean_pixel(pixels, many):
    """Returns the mean of so many pixels, of which those that are not told are clear."""
    covers = sum([pixel[3] for pixel in pixels])
    cover = (covers + many // 2) // many
    if cover == 0:
        return CLEAR
    sums = [sum([pixel[k] * pixel[3] for pixel in pixels]) for k in range(3)]
    red, green, blue = [(total + covers // 2) // covers for total in sums]
    return (red, green, blue, cover)


def _fullest(pixels):
    """Returns the first one of those pixels that cover most."""
    best = CLEAR
    for pixel in pixels:
        if pixel[3] > best[3]:
            best = pixel
    return best
