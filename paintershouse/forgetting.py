"""What plain rows forget: kept points, twins, and undoings."""

from paintershouse.deeds import MAX_DEEDS
from paintershouse.errors import Missing, TooLarge
from paintershouse.forms import check_plain, deed_form, drawn_by, form_of, plain_form, told_entries
from paintershouse.pictures import points_of, size_of
from paintershouse.pixels import CLEAR
from paintershouse.regions import region_of


def _shades_by_source(form):
    """Returns a dict of the dicts of the shades that are made of the pixel at each kept point."""
    told = told_entries(form)
    shades = {}
    for point in told:
        if len(told[point]) == 2:
            source, shade = told[point]
            if source not in shades:
                shades[source] = {}
            shades[source][shade] = True
    return shades


def kept_points(sides, deeds):
    """Returns the region of the points that stand in some entry of the form of a plain row."""
    return region_of(list(_shades_by_source(form_of(sides, deeds))))


def twins(sides, deeds):
    """Returns two different pictures of which a plain row makes the same."""
    shades = _shades_by_source(form_of(sides, deeds))
    wide, high = sides
    known = {}
    for point in points_of(wide, high):
        made = tuple(sorted(shades.get(point, {})))
        if made not in known:
            known[made] = pixels_made_same(made)
        if known[made]:
            one, other = known[made]
            return (_with_dot(sides, point, one), _with_dot(sides, point, other))
    raise Missing("a row that forgets nothing")


def _with_dot(sides, point, pixel):
    """Returns the picture that is clear but for the pixel at a point."""
    wide, high = sides
    return tuple([tuple([pixel if (x, y) == point else CLEAR for x in range(wide)]) for y in range(high)])


def pixels_made_same(shades):
    """Returns a pair of different pixels of which each shade makes the same, or the empty tuple."""
    levels = _all_levels(shades)
    for cover in range(16):
        for k in range(3):
            for same in levels[cover][k].values():
                if len(same) > 1:
                    return (_coloured(k, same[0], cover), _coloured(k, same[1], cover))
    covers = [tuple([shade[0][cover] for shade in shades]) for cover in range(16)]
    for second in range(16):
        for first in range(second):
            if covers[first] == covers[second]:
                pairs = [_common(levels[first][k], levels[second][k]) for k in range(3)]
                if all(pairs):
                    one, other = tuple([pair[0] for pair in pairs]), tuple([pair[1] for pair in pairs])
                    return (one + (first,), other + (second,))
    return ()


def _all_levels(shades):
    """Returns, for each cover, a list of what shades make together of the levels of each colour."""
    return [[_levels_behind(shades, k, cover) for k in range(3)] for cover in range(16)]


def _levels_behind(shades, k, cover):
    """Returns, for all that shades make together of a colour's levels, a dict of the lists of these levels."""
    levels = {}
    for level in range(16 if cover > 0 else 1):
        made = tuple([tables[k][cover][level] for _, tables in shades])
        levels.setdefault(made, []).append(level)
    return levels


def _coloured(k, level, cover):
    """Returns the pixel with a level of one colour alone."""
    levels = [0, 0, 0, cover]
    levels[k] = level
    return tuple(levels)


def _common(first, second):
    """Returns a level of each of two dicts of which the same is made, or the empty tuple."""
    for made in first:
        if made in second:
            return (first[made][0], second[made][0])
    return ()


def are_twins(sides, deeds, first, second):
    """Returns True if two pictures are twins of a plain row, otherwise False."""
    form = form_of(sides, deeds)
    if size_of(first) != sides or size_of(second) != sides or first == second:
        return False
    return drawn_by(form, first) == drawn_by(form, second)


def undoing(sides, deeds):
    """Returns the undoing of a plain row."""
    check_plain(sides, deeds)
    made = []
    for deed in reversed(deeds):
        made.extend(_undone(sides, deed))
    if len(made) > MAX_DEEDS:
        raise TooLarge("too many deeds")
    return tuple(made)


def _undone(sides, deed):
    """Returns the list of the deeds of the undoing of one deed."""
    if deed_form(sides, deed) == plain_form(sides):
        return []
    if deed[0] in ("flip", "fall"):
        return [deed]
    if deed[0] == "turn":
        return [deed] * 3
    if deed[0] == "tone" and _leads_back(deed[2]):
        return [("tone", deed[1], tuple([tuple([table.index(level) for level in range(16)]) for table in deed[2]]))]
    raise Missing("a deed that cannot be undone")


def _leads_back(tables):
    """Tells whether four tables have each level once, and keep what covers nothing."""
    return tables[3][0] == 0 and all([sorted(table) == list(range(16)) for table in tables])
