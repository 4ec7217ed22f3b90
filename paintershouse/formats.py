"""Formats: pictures as codes of six kinds, and what is read of them."""

from paintershouse.bits import BitReader, check_bits, gamma, pixel_bits, written
from paintershouse.errors import BadForm, NotAllowed
from paintershouse.guesses import MANY_GUESSES, STEPS, best_guesses, folded, guessed, pass_points, unfolded
from paintershouse.leastcodes import codes_of, least_lengths
from paintershouse.pictures import MAX_SIDE, points_of, size_of
from paintershouse.pixels import CLEAR, is_pixel

MAX_BITS = 24000
KINDS = ("plain", "runs", "table", "coded", "rows", "passes")
PASSES = 5
KIND_SIZE = 3
SIDE_SIZE = 5
LENGTH_SIZE = 4
GUESS_SIZE = 3
# Behind a kind and two sides.
HEAD_END = 13
# With any of these rests a point may be told by an earlier one, the least rest first.
COARSER = (2, 4, 8)


def code_of(picture, kind):
    """Returns the code of a picture by a kind."""
    if not 0 <= kind < len(KINDS):
        raise NotAllowed("not a kind")
    wide, high = size_of(picture)
    body = BODIES[kind]
    bits = written(kind, KIND_SIZE) + written(wide - 1, SIDE_SIZE) + written(high - 1, SIDE_SIZE) + body(picture)
    return bits + check_bits(bits)


def sizes_of(picture):
    """Returns the list of the numbers of bits of the codes of a picture, in the order of the kinds."""
    return [len(code_of(picture, kind)) for kind in range(len(KINDS))]


def least_code(picture):
    """Returns the shortest code of a picture, of several the one with the least kind."""
    sizes = sizes_of(picture)
    return code_of(picture, sizes.index(min(sizes)))


def _pixels(picture):
    return [pixel for row in picture for pixel in row]


def _plain_body(picture):
    return "".join([pixel_bits(pixel) for pixel in _pixels(picture)])


def _runs_body(picture):
    runs = []
    for pixel in _pixels(picture):
        if runs and runs[-1][1] == pixel:
            runs[-1] = (runs[-1][0] + 1, pixel)
        else:
            runs.append((1, pixel))
    return "".join([gamma(long) + pixel_bits(pixel) for long, pixel in runs])


def _index_size(many):
    """Returns the least number of bits in which so many indexes can be told."""
    return (many - 1).bit_length()


def _table_body(picture):
    pixels = _pixels(picture)
    table = sorted(set(pixels))
    size = _index_size(len(table))
    indexes = {pixel: written(at, size) for at, pixel in enumerate(table)}
    told = "".join([pixel_bits(pixel) for pixel in table])
    return gamma(len(table)) + told + "".join([indexes[pixel] for pixel in pixels])


def _coded_body(picture):
    pixels = _pixels(picture)
    table = sorted(set(pixels))
    counts = {pixel: 0 for pixel in table}
    for pixel in pixels:
        counts[pixel] += 1
    lengths = least_lengths(tuple([counts[pixel] for pixel in table]))
    codes = {pixel: code for pixel, code in zip(table, codes_of(lengths))}
    told = "".join([pixel_bits(pixel) + written(length, LENGTH_SIZE) for pixel, length in zip(table, lengths)])
    return gamma(len(table)) + told + "".join([codes[pixel] for pixel in pixels])


def _guessed_next(guess, above, row):
    """Returns the guessed levels of the pixel behind those of a row, below a row that may be empty."""
    x = len(row)
    left = row[-1] if x > 0 else CLEAR
    if not above:
        return guessed(guess, left, CLEAR, CLEAR)
    return guessed(guess, left, above[x], above[x - 1] if x > 0 else CLEAR)


def _differences(pixel, levels):
    """Returns the bits of the differences of a pixel from guessed levels."""
    return "".join([gamma(folded(level - told) + 1) for level, told in zip(pixel, levels)])


def _rows_body(picture):
    bits = []
    above = ()
    for guess, row in zip(best_guesses(picture), picture):
        bits.append(written(guess, GUESS_SIZE))
        for x, pixel in enumerate(row):
            bits.append(_differences(pixel, _guessed_next(guess, above, row[:x])))
        above = row
    return "".join(bits)


def _pass_guesses(sides):
    """Returns the list of all points, as the passes have them, each with the point by which it is guessed.

    A point of the first pass has the empty tuple instead.
    """
    wide, high = sides
    points = [(point, ()) for point in pass_points(wide, high, 0)]
    for number in range(1, len(STEPS)):
        points.extend([(point, _coarse(point, 2 * STEPS[number])) for point in pass_points(wide, high, number)])
    return points


def _coarse(point, step):
    """Returns a point without the rests of x and y by a step."""
    x, y = point
    return (x - x % step, y - y % step)


def _passes_body(picture):
    bits = []
    for (x, y), source in _pass_guesses(size_of(picture)):
        levels = picture[source[1]][source[0]] if source else CLEAR
        bits.append(_differences(picture[y][x], levels))
    return "".join(bits)


BODIES = (_plain_body, _runs_body, _table_body, _coded_body, _rows_body, _passes_body)


def _check_long(bits):
    if len(bits) > MAX_BITS:
        raise BadForm(0)


def _read_head(reader):
    """Reads and returns the kind and the sides."""
    kind = reader.number(KIND_SIZE)
    sides = (reader.number(SIDE_SIZE) + 1, reader.number(SIDE_SIZE) + 1)
    if kind >= len(KINDS) or max(sides) > MAX_SIDE:
        raise BadForm(1)
    return kind, sides


def read_code(bits):
    """Returns the kind and the picture of a code."""
    _check_long(bits)
    reader = BitReader(bits)
    kind, sides = _read_head(reader)
    if kind == PASSES:
        picture = _read_passes(bits, sides)
    else:
        read = READERS[kind]
        picture = _in_rows(read(reader, sides), sides)
    # A picture has one code by a kind, so all that is told in another way is none.
    if code_of(picture, kind) != bits:
        raise BadForm(1)
    return (kind, picture)


def _in_rows(pixels, sides):
    """Returns the picture of a list of all its pixels."""
    wide, high = sides
    return tuple([tuple(pixels[y * wide:(y + 1) * wide]) for y in range(high)])


def _read_plain(reader, sides):
    return [reader.pixel() for _ in range(sides[0] * sides[1])]


def _read_runs(reader, sides):
    many = sides[0] * sides[1]
    pixels = []
    while len(pixels) < many:
        long = reader.gamma()
        if long > many - len(pixels):
            raise BadForm(1)
        pixels.extend([reader.pixel()] * long)
    return pixels


def _read_many(reader, sides):
    """Reads and returns the number of pixels in a table."""
    many = reader.gamma()
    if many > sides[0] * sides[1]:
        raise BadForm(1)
    return many


def _read_table(reader, sides):
    table = [reader.pixel() for _ in range(_read_many(reader, sides))]
    size = _index_size(len(table))
    indexes = [reader.number(size) for _ in range(sides[0] * sides[1])]
    if max(indexes) >= len(table):
        raise BadForm(1)
    return [table[at] for at in indexes]


def _read_coded(reader, sides):
    table, lengths = [], []
    for _ in range(_read_many(reader, sides)):
        table.append(reader.pixel())
        lengths.append(reader.number(LENGTH_SIZE))
    try:
        codes = codes_of(tuple(lengths))
    except NotAllowed:
        raise BadForm(1) from None
    pixels = {code: pixel for code, pixel in zip(codes, table)}
    return [_read_signed(reader, pixels) for _ in range(sides[0] * sides[1])]


def _read_signed(reader, pixels):
    """Reads a code of a dict, and returns its pixel."""
    code = ""
    while code not in pixels:
        code += "1" if reader.number(1) else "0"
    return pixels[code]


def _read_rows(reader, sides):
    wide, high = sides
    pixels, above = [], []
    for _ in range(high):
        guess = reader.number(GUESS_SIZE)
        if guess >= MANY_GUESSES:
            raise BadForm(1)
        row = []
        while len(row) < wide:
            levels = _guessed_next(guess, above, row)
            row.append(_pixel_from(levels, [reader.gamma() for _ in range(4)]))
        pixels.extend(row)
        above = row
    return pixels


READERS = (_read_plain, _read_runs, _read_table, _read_coded, _read_rows)


def _pixel_from(levels, numbers):
    """Returns the pixel that is told by guessed levels and the numbers of four gammas."""
    if max(numbers) > 16:
        raise BadForm(1)
    pixel = tuple([(told + unfolded(number - 1)) % 16 for told, number in zip(levels, numbers)])
    if not is_pixel(pixel):
        raise BadForm(1)
    return pixel


def _four_gammas(bits, at):
    """Returns the list of four numbers whose gammas stand from a place on, and the place behind them.

    The list is shorter if there are not enough bits.
    """
    numbers = []
    while len(numbers) < 4:
        first = bits.find("1", at)
        behind = 2 * first - at + 1
        if first < 0 or behind > len(bits):
            break
        numbers.append(int(bits[first:behind], 2))
        at = behind
    return numbers, at


def _known_pixels(bits, sides):
    """Returns a dict of the pixels of those points whose differences are told behind a head."""
    known = {}
    at = HEAD_END
    for point, source in _pass_guesses(sides):
        numbers, at = _four_gammas(bits, at)
        if len(numbers) < 4:
            break
        known[point] = _pixel_from(known[source] if source else CLEAR, numbers)
    return known


def _read_passes(bits, sides):
    known = _known_pixels(bits, sides)
    if len(known) < sides[0] * sides[1]:
        raise BadForm(1)
    return _seen_behind(known, sides)


def _seen_behind(known, sides):
    """Returns what is seen behind the points of passes whose pixels are known."""
    wide, high = sides
    return _in_rows([_seen_at(known, point) for point in points_of(wide, high)], sides)


def _seen_at(known, point):
    if point in known:
        return known[point]
    for step in COARSER:
        source = _coarse(point, step)
        if source in known:
            return known[source]
    return CLEAR


def seen_of(bits):
    """Returns what is seen behind the points that are told in the beginning of a code by passes, and their number."""
    _check_long(bits)
    kind, sides = _read_head(BitReader(bits))
    if kind != PASSES:
        raise BadForm(1)
    known = _known_pixels(bits, sides)
    return (_seen_behind(known, sides), len(known))
