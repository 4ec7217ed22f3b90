"""One colour and the cover of what is seen at a point, for all grey pixels of the open layers there.

A colour of what is seen depends on this colour and the covers below alone. So a
grey pixel stands for all pixels with its cover and one colour, and is told by a
code: 16 times its cover, and the colour; 0 is the clear pixel.

What is seen is told as a triple `(opens, places, codes)`: the indexes of the open
layers on which it depends, ascending; for each grey pixel of the open layer, or
for each pair of them, a place; and the code at each place. For no open layer
there is one place alone.
"""

from paintershouse.pixels import mixed, put_together, scaled

MANY_CODES = 256


def grey_codes():
    """Returns the list of the codes of all grey pixels, that of the clear one first."""
    return [0] + list(range(16, MANY_CODES))


def grey_pixel(code):
    """Returns the grey pixel with a code."""
    level = code & 15
    return (level, level, level, code >> 4)


def code_of(pixel, k):
    """Returns the code of the colour k and the cover of a pixel."""
    return 16 * pixel[3] + pixel[k]


def blended_code(mode, below, above, level):
    """Returns the code that is seen of a code above another one, as pixels are blended."""
    over = scaled(above >> 4, level)
    rest = scaled(below >> 4, 15 - over)
    cover = over + rest
    if cover == 0:
        return 0
    made = put_together(mode, below & 15, above & 15)
    colour = mixed(above & 15, made, below >> 4)
    return 16 * cover + ((below & 15) * rest + colour * over + cover // 2) // cover


def toned_code(code, table, covers, level):
    """Returns the code that a tone makes of a code at a level, by a colour's table and that of the cover."""
    cover = covers[code >> 4]
    colour = table[code & 15] if cover > 0 else 0
    made = mixed(code >> 4, cover, level)
    if made == 0:
        return 0
    return 16 * made + mixed(code & 15, colour, level)


class Codes:
    """Lists of what becomes of each code, each of which is made once."""

    def __init__(self):
        self.lists = {}

    def over(self, mode, level, above):
        """Returns the list of what is seen of a code above each code."""
        key = (mode, level, above)
        if key not in self.lists:
            self.lists[key] = [blended_code(mode, below, above, level) for below in range(MANY_CODES)]
        return list(self.lists[key])

    def toned(self, table, covers, level):
        """Returns the list of what a tone makes of each code."""
        key = (table, covers, level)
        if key not in self.lists:
            self.lists[key] = [toned_code(code, table, covers, level) for code in range(MANY_CODES)]
        return list(self.lists[key])


def seen_there(codes, k, there):
    """Returns what is seen of the colour k, by what layers have at a point."""
    seen = ((), [0], [0])
    for kind, mode, level, inner in there:
        if kind == "tone":
            seen = _toned(codes, seen, inner[k], inner[3], level)
        elif kind == "unknown":
            seen = _laid(codes, mode, level, seen, ((inner,), list(range(MANY_CODES - 15)), grey_codes()))
        elif kind == "paint":
            seen = _laid(codes, mode, level, seen, ((), [0], [code_of(inner, k)]))
        else:
            seen = _laid(codes, mode, level, seen, seen_there(codes, k, inner))
    return seen


def _toned(codes, seen, table, covers, level):
    """Returns what is seen of a tone above what is seen."""
    opens, places, told = seen
    if not opens:
        return (opens, places, [toned_code(told[0], table, covers, level)])
    made = codes.toned(table, covers, level)
    return (opens, places, [made[code] for code in told])


def _laid(codes, mode, level, below, above):
    """Returns what is seen of one above another one, which depend on different open layers."""
    opens, places, told = below
    over_opens, over_places, over_told = above
    if not opens:
        return (over_opens, over_places, [blended_code(mode, told[0], code, level) for code in over_told])
    if not over_opens:
        made = codes.over(mode, level, over_told[0])
        return (opens, places, [made[code] for code in told])
    low = [told[place] for place in places]
    rows = [codes.over(mode, level, over_told[place]) for place in over_places]
    if opens < over_opens:
        pairs = [row[code] for code in low for row in rows]
    else:
        pairs = [row[code] for row in rows for code in low]
    return ((0, 1), pairs, list(range(MANY_CODES)))


def all_codes(seen, many):
    """Returns the list of the codes that are seen for all grey pixels of so many open layers, or all pairs of them."""
    opens, places, codes = seen
    told = [codes[place] for place in places]
    greys = MANY_CODES - 15
    if len(opens) == many:
        return told
    if not opens:
        return told * (greys if many == 1 else greys * greys)
    if opens == (1,):
        return told * greys
    return [code for code in told for _ in range(greys)]


def pixels_at(at, many):
    """Returns the tuple of the grey pixels of so many open layers that stand at a place among all."""
    greys = grey_codes()
    if many == 1:
        return (grey_pixel(greys[at]),)
    return (grey_pixel(greys[at // len(greys)]), grey_pixel(greys[at % len(greys)]))
