"""What is true for all pictures of the open layers of a document."""

from paintershouse.errors import Missing, NotAllowed
from paintershouse.greys import Codes, all_codes, code_of, grey_codes, pixels_at, seen_there
from paintershouse.layers import PLAIN_LOOK, layer, layers_there, level_at, over_all, pixel_told, put_in_place
from paintershouse.opened import check_open, check_place
from paintershouse.pictures import blank, points_of
from paintershouse.pixels import is_pixel
from paintershouse.regions import is_within


def _check_both(first, second, opens):
    """Raises NotAllowed if layers are not open in both documents, or these have other sides."""
    check_open(first, opens)
    check_open(second, opens)
    if first[:2] != second[:2]:
        raise NotAllowed("documents with other sides")


def same_for_all(first, second, opens):
    """Returns `same`, or `differ` and a paper of difference."""
    _check_both(first, second, opens)
    paper = _difference(first, second, opens)
    if paper:
        return ("differ", paper)
    return ("same", ())


def judge_difference(first, second, opens, paper):
    """Returns True if a paper shows that two documents differ for some pictures, otherwise False."""
    _check_both(first, second, opens)
    point, pixels = paper
    if not is_within(first[:2], point) or len(pixels) != len(opens):
        return False
    if not all([is_pixel(pixel) for pixel in pixels]):
        return False
    one, other = layers_there(first[2], point, opens), layers_there(second[2], point, opens)
    return pixel_told(one, pixels) != pixel_told(other, pixels)


def _difference(first, second, opens):
    """Returns a paper of difference with the first point, or the empty tuple."""
    wide, high, _ = first
    lists, found = Codes(), {}
    for point in points_of(wide, high):
        one, other = layers_there(first[2], point, opens), layers_there(second[2], point, opens)
        if one == other:
            continue
        # Groups in groups are too deep for a key, so a text tells them.
        key = repr((one, other))
        if key not in found:
            found[key] = _pixels_apart(lists, one, other, len(opens))
        if found[key]:
            return (point, found[key])
    return ()


def _pixels_apart(lists, one, other, many):
    """Returns grey pixels with which something else is seen, or the empty tuple."""
    for k in range(3):
        codes = all_codes(seen_there(lists, k, one), many)
        others = all_codes(seen_there(lists, k, other), many)
        if codes != others:
            for at, code in enumerate(codes):
                if code != others[at]:
                    return pixels_at(at, many)
    return ()


def _seen_change(lists, there, which, many):
    """Returns pixels of the open layers, and another one of one of them that is seen, or the empty tuple."""
    greys = len(grey_codes())
    for k in range(3):
        codes = all_codes(seen_there(lists, k, there), many)
        for at, code in enumerate(codes):
            # That of the same pixels, but for the clear one of this layer.
            clear = at % greys if which < many - 1 else at - at % greys
            if code != codes[clear]:
                return (pixels_at(clear, many), pixels_at(at, many)[which])
    return ()


def _check_name(opens, name):
    if name not in opens:
        raise NotAllowed("not the name of an open layer")


def hidden_points(document, opens, name):
    """Returns the list of the points at which an open layer is never seen, in order."""
    check_open(document, opens)
    _check_name(opens, name)
    wide, high, layers = document
    lists, found, points = Codes(), {}, []
    for point in points_of(wide, high):
        there = layers_there(layers, point, opens)
        key = repr(there)
        if key not in found:
            found[key] = _seen_change(lists, there, opens.index(name), len(opens))
        if not found[key]:
            points.append(point)
    return points


def sight_paper(document, opens, name, point):
    """Returns pixels of the open layers, another pixel of one of them that is seen at a point, and the point."""
    check_open(document, opens)
    _check_name(opens, name)
    check_place(document, point)
    change = _seen_change(Codes(), layers_there(document[2], point, opens), opens.index(name), len(opens))
    if not change:
        raise Missing("a layer that is never seen there")
    return change + (point,)


def _group_with(layers, name):
    """Returns the layers of the group that has a layer, or the empty tuple."""
    for item in layers:
        if item[1] == name:
            return layers
        if item[0] == "group":
            found = _group_with(item[3], name)
            if found:
                return found
    return ()


def _pair_above(document, name):
    """Returns a layer and the one directly above it."""
    lower = layer(document, name)
    group = _group_with(document[2], name)
    place = group.index(lower) + 1
    if place == len(group):
        raise Missing("no layer directly above")
    return lower, group[place]


def _with_pair(document, lower, upper, items):
    """Returns a document with some layers in the place of one and the one above it."""
    wide, high, layers = document
    return (wide, high, put_in_place(put_in_place(layers, upper[1], ()), lower[1], items))


def exchanged_above(document, name):
    """Returns a document with a layer and the one directly above it exchanged."""
    lower, upper = _pair_above(document, name)
    return _with_pair(document, lower, upper, (upper, lower))


def dissolved(document, name):
    """Returns a document with the layers of a group in its place."""
    kind, _, _, content = layer(document, name)
    if kind != "group":
        raise NotAllowed("only a group can be dissolved")
    return (document[0], document[1], put_in_place(document[2], name, content))


def may_exchange(document, opens, name):
    """Returns True if a layer may be exchanged with the one directly above it, otherwise False."""
    check_open(document, opens)
    return _difference(document, exchanged_above(document, name), opens) == ()


def may_dissolve(document, opens, name):
    """Returns True if a group may be dissolved, otherwise False."""
    check_open(document, opens)
    return _difference(document, dissolved(document, name), opens) == ()


def joined_above(document, name):
    """Returns a document in which a layer is joined with the one directly above it."""
    lower, upper = _pair_above(document, name)
    for kind, _, look, _ in (lower, upper):
        if kind != "paint" or look[0] == 0:
            raise NotAllowed("only paint layers that are shown can be joined")
    wide, high, _ = document
    picture = over_all(blank(wide, high), (lower, upper))
    lists = Codes()
    for point in points_of(wide, high):
        if not _may_join(lists, lower, upper, picture, point):
            raise Missing("layers that may not be joined")
    return _with_pair(document, lower, upper, (("paint", name, PLAIN_LOOK, picture),))


def _may_join(lists, lower, upper, picture, point):
    """Tells whether two paint layers are seen as one picture at a point, whatever is below them."""
    x, y = point
    for k in range(3):
        rows = []
        for _, _, look, painted in (lower, upper):
            rows.append(lists.over(look[1], level_at(look, point), code_of(painted[y][x], k)))
        low, high = rows
        joined = lists.over("plain", 15, code_of(picture[y][x], k))
        if not all([high[low[code]] == joined[code] for code in grey_codes()]):
            return False
    return True
