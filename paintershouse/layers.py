"""Documents, their layers, and what is seen of them."""

from paintershouse.deeds import are_tables, toned
from paintershouse.errors import Missing, NotAllowed, TooLarge
from paintershouse.pictures import blank, check_picture, check_size, points_of, size_of
from paintershouse.pixels import CLEAR, blended, check_level, check_mode, mixed, scaled
from paintershouse.values import is_nested, is_word

MAX_ITEMS = 24
MAX_NESTED = 4
MAX_WORD = 8
KINDS = ("paint", "group", "tone")
PLAIN_LOOK = (1, "plain", 15, ())


def check_document(document):
    """Raises NotAllowed if a tuple is not a document, then TooLarge if it has too many layers."""
    wide, high, layers = document
    check_size(wide, high)
    _check_layers((wide, high), layers, 0)
    names = names_of(document)
    if len(set(names)) < len(names):
        raise NotAllowed("two layers with the same name")
    if len(names) > MAX_ITEMS:
        raise TooLarge("too many layers")


def _check_layers(sides, layers, around):
    """Raises NotAllowed if layers with so many groups around them are not those of a document."""
    for kind, name, look, content in layers:
        if kind not in KINDS:
            raise NotAllowed("not the kind of a layer")
        if not is_name(name):
            raise NotAllowed("not the name of a layer")
        _check_look(sides, look)
        if kind == "paint":
            _check_painted(sides, content)
        elif kind == "tone":
            _check_tables(content)
        elif around == MAX_NESTED:
            raise NotAllowed("too many groups within one another")
        else:
            _check_layers(sides, content, around + 1)


def is_name(text):
    """Tells whether a text is a name."""
    return len(text) <= MAX_WORD and is_word(text)


def _check_look(sides, look):
    shown, mode, level, mask = look
    if shown != 0 and shown != 1:
        raise NotAllowed("neither shown nor not shown")
    check_mode(mode)
    check_level(level)
    if not mask:
        return
    if len(mask) != sides[1]:
        raise NotAllowed("a mask with another height")
    for row in mask:
        if len(row) != sides[0]:
            raise NotAllowed("a mask with another width")
        for masked in row:
            check_level(masked)


def _check_painted(sides, picture):
    check_picture(picture)
    if size_of(picture) != sides:
        raise NotAllowed("a picture with other sides than its document")


def _check_tables(tables):
    if not are_tables(tables):
        raise NotAllowed("not four tables")


def is_built_look(value):
    """Tells whether a value is built like a look, whatever its parts tell."""
    if not isinstance(value, tuple) or len(value) != 4:
        return False
    shown, mode, level, mask = value
    return isinstance(shown, int) and isinstance(mode, str) and isinstance(level, int) and is_nested(mask, 2)


def is_built_layer(value):
    """Tells whether a value is built like a layer, whatever its parts tell."""
    if not isinstance(value, tuple) or len(value) != 4:
        return False
    kind, name, look, content = value
    if not isinstance(kind, str) or not isinstance(name, str) or not is_built_look(look):
        return False
    if kind == "paint":
        return is_nested(content, 3)
    if kind == "tone":
        return is_nested(content, 2)
    # What a layer of another kind has is any tuple.
    return isinstance(content, tuple) and (kind != "group" or all([is_built_layer(item) for item in content]))


def level_at(look, point):
    """Returns the level of a look at a point."""
    _, _, level, mask = look
    if not mask:
        return level
    return scaled(level, mask[point[1]][point[0]])


def toned_at(pixel, tables, level):
    """Returns what a tone makes of a pixel at a level."""
    made = toned(pixel, tables)
    levels = tuple([mixed(old, new, level) for old, new in zip(pixel, made)])
    if levels[3] == 0:
        return CLEAR
    return levels


def pixel_over(below, layers, point):
    """Returns the pixel that is seen at a point of layers above a pixel."""
    pixel = below
    for kind, _, look, content in layers:
        if look[0] == 0:
            continue
        level = level_at(look, point)
        if kind == "tone":
            pixel = toned_at(pixel, content, level)
        elif kind == "paint":
            pixel = blended(look[1], pixel, content[point[1]][point[0]], level)
        else:
            pixel = blended(look[1], pixel, pixel_over(CLEAR, content, point), level)
    return pixel


def layers_there(layers, point, opens):
    """Returns what layers that are shown have at a point, told by their kinds, modes, levels, and what is there.

    A layer with a name among the open ones has the kind `unknown`, and the index of its name there.
    """
    there = []
    for kind, name, look, content in layers:
        if look[0] == 0:
            continue
        if name in opens:
            kind, inner = "unknown", opens.index(name)
        elif kind == "paint":
            inner = content[point[1]][point[0]]
        elif kind == "group":
            inner = layers_there(content, point, opens)
        else:
            inner = content
        there.append((kind, look[1], level_at(look, point), inner))
    return tuple(there)


def pixel_told(there, pixels):
    """Returns the pixel that is seen, by what layers have at a point, and the pixels of the open ones."""
    pixel = CLEAR
    for kind, mode, level, inner in there:
        if kind == "tone":
            pixel = toned_at(pixel, inner, level)
        elif kind == "group":
            pixel = blended(mode, pixel, pixel_told(inner, pixels), level)
        else:
            pixel = blended(mode, pixel, pixels[inner] if kind == "unknown" else inner, level)
    return pixel


def over_all(below, layers):
    """Returns what is seen of layers above a picture."""
    wide, high = size_of(below)
    pixels = {point: pixel_over(below[point[1]][point[0]], layers, point) for point in points_of(wide, high)}
    return tuple([tuple([pixels[(x, y)] for x in range(wide)]) for y in range(high)])


def seen(document):
    """Returns the plain picture of a document."""
    wide, high, layers = document
    return over_all(blank(wide, high), layers)


def items_in(layers):
    """Returns the list of layers and of those in them, in order."""
    items = []
    for item in layers:
        items.append(item)
        if item[0] == "group":
            items.extend(items_in(item[3]))
    return items


def names_of(document):
    """Returns the list of the names of all layers, in order."""
    return [item[1] for item in items_in(document[2])]


def layer(document, name):
    """Returns the layer with a name."""
    for item in items_in(document[2]):
        if item[1] == name:
            return item
    raise Missing("no layer with this name")


def put_in_place(layers, name, items):
    """Returns layers with some others in the place of the one with a name."""
    made = []
    for item in layers:
        kind, word, look, content = item
        if word == name:
            made.extend(items)
        elif kind == "group":
            made.append((kind, word, look, put_in_place(content, name, items)))
        else:
            made.append(item)
    return tuple(made)


def _with_layers(document, layers):
    """Returns a document with other layers, if they make one."""
    made = (document[0], document[1], layers)
    check_document(made)
    return made


def _with_items(document, name, items):
    """Returns a document with some layers in the place of one, if they make one."""
    return _with_layers(document, put_in_place(document[2], name, items))


def add_above(document, name, item):
    """Returns a document with one layer more, above the one with a name, or at the bottom."""
    if name == "":
        return _with_layers(document, (item,) + document[2])
    return _with_items(document, name, (layer(document, name), item))


def remove(document, name):
    """Returns a document without a layer and what is in it."""
    layer(document, name)
    return _with_items(document, name, ())


def replace(document, name, item):
    """Returns a document with a layer in the place of another one."""
    layer(document, name)
    return _with_items(document, name, (item,))


def look_of(document, name, look):
    """Returns a document with another look of a layer."""
    kind, _, _, content = layer(document, name)
    return _with_items(document, name, ((kind, name, look, content),))


def grouped(document, name, new):
    """Returns a document with a layer put into a new group, alone."""
    inner = layer(document, name)
    return _with_items(document, name, (("group", new, PLAIN_LOOK, (inner,)),))


def flattened(document, name):
    """Returns a document with a group made one paint layer."""
    kind, _, look, content = layer(document, name)
    if kind != "group":
        raise NotAllowed("only a group can be flattened")
    picture = over_all(blank(document[0], document[1]), content)
    return _with_items(document, name, (("paint", name, look, picture),))
