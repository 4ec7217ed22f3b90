"""Plain rows that may be exchanged, that are one deed, or have deeds that are needless."""

from paintershouse.errors import Missing, TooLarge
from paintershouse.forms import FormBook, check_plain, deed_form, form_behind, form_of, told_entries
from paintershouse.pixels import CLEAR
from paintershouse.regions import region_of
from paintershouse.shades import PLAIN_SHADE

MAX_PARTS = 10


def conflict(sides, first, second):
    """Returns the region of the points at which the two orders of two plain rows differ for some picture."""
    one, other = form_of(sides, first), form_of(sides, second)
    there, back = told_entries(form_behind(one, other)), told_entries(form_behind(other, one))
    return region_of([point for point in there if there[point] != back[point]])


def may_exchange(sides, first, second):
    """Returns True if two plain rows may be exchanged, otherwise False."""
    one, other = form_of(sides, first), form_of(sides, second)
    return form_behind(one, other) == form_behind(other, one)


def one_deed(sides, deeds):
    """Returns the first deed that makes the same of all pictures as a plain row."""
    form = form_of(sides, deeds)
    wide, high = sides
    candidates = [("flip",), ("fall",)]
    if wide == high:
        candidates.append(("turn",))
    candidates.append(_move_of(sides, form))
    candidates.append(_tone_of(form))
    for deed in candidates:
        if deed_form(sides, deed) == form:
            return deed
    raise Missing("no deed that does the same alone")


def _move_of(sides, form):
    """Returns the first move that could have a form, if one has."""
    told = told_entries(form)
    for x, y in told:
        entry = told[(x, y)]
        if len(entry) == 2:
            return ("move", x - entry[0][0], y - entry[0][1])
    # Moves that leave nothing do the same, by however much they go.
    return ("move", -sides[0], -sides[1])


def _tone_of(form):
    """Returns the tone that could have a form, if one has."""
    told = told_entries(form)
    points = [point for point in told if told[point] != (point, PLAIN_SHADE)]
    entry = told[points[0]] if points else CLEAR
    if len(entry) == 4:
        tables = tuple([(level,) * 16 for level in entry])
    else:
        tables = _tables_of(entry[1])
    return ("tone", region_of(points), tables)


def _tables_of(shade):
    """Returns the tables that could have a shade, with 0 for levels of which it tells nothing."""
    covers, tables = shade
    told = []
    for table in tables:
        # Of a clear pixel the colours are 0; all other levels are told by pixels that cover.
        levels = (table[0][0],) + (0,) * 15
        for cover in range(1, 16):
            if covers[cover] > 0:
                levels = table[cover]
        told.append(levels)
    return (told[0], told[1], told[2], covers)


def needless(sides, deeds):
    """Returns the ascending list of the indexes of the needless deeds of a plain row."""
    check_plain(sides, deeds)
    book = FormBook(sides)
    forms = [book.taken(deed_form(sides, deed)) for deed in deeds]
    ahead = [book.plain()]
    for form in forms:
        ahead.append(book.put_behind(ahead[-1], form))
    found = []
    rest = book.plain()
    for k in reversed(range(len(deeds))):
        if book.put_behind(ahead[k], rest) == ahead[-1]:
            found.append(k)
        rest = book.put_behind(forms[k], rest)
    return sorted(found)


def least_part(sides, deeds):
    """Returns the least part of a plain row, by its indexes."""
    check_plain(sides, deeds)
    if len(deeds) > MAX_PARTS:
        raise TooLarge("too many deeds")
    book = FormBook(sides)
    forms = [book.taken(deed_form(sides, deed)) for deed in deeds]
    form = book.all_behind(forms)
    parts = [((), book.plain())]
    while True:
        for part, made in parts:
            if made == form:
                return part
        # The whole row has its own form, so this comes to an end.
        parts = _longer(book, parts, forms)


def _longer(book, parts, forms):
    """Returns the list of the parts with one index more, in order, each with its form."""
    made = []
    for part, form in parts:
        for k in range(part[-1] + 1 if part else 0, len(forms)):
            made.append((part + (k,), book.put_behind(form, forms[k])))
    return made
