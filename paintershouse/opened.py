"""Open layers: paint layers whose pictures are not known, and what is seen with any."""

from paintershouse.errors import NotAllowed
from paintershouse.layers import items_in, layers_there, pixel_told, put_in_place
from paintershouse.pictures import check_picture, size_of
from paintershouse.pixels import check_pixel
from paintershouse.regions import is_within


def check_open(document, opens):
    """Raises NotAllowed if names are not those of one or two different paint layers, in order."""
    if not 1 <= len(opens) <= 2:
        raise NotAllowed("not a number of open layers")
    painted = [item[1] for item in items_in(document[2]) if item[0] == "paint"]
    places = [painted.index(name) for name in opens if name in painted]
    if len(places) < len(opens) or sorted(set(places)) != places:
        raise NotAllowed("not names of paint layers in order")


def filled(document, opens, pictures):
    """Returns a document with pictures in the places of those of its open layers."""
    check_open(document, opens)
    wide, high, layers = document
    if len(pictures) != len(opens):
        raise NotAllowed("not a picture for each open layer")
    for picture in pictures:
        check_picture(picture)
        if size_of(picture) != (wide, high):
            raise NotAllowed("a picture with other sides than its document")
    for item in items_in(layers):
        if item[1] in opens:
            _, name, look, _ = item
            layers = put_in_place(layers, name, (("paint", name, look, pictures[opens.index(name)]),))
    return (wide, high, layers)


def check_place(document, point):
    """Raises NotAllowed if a pair of integers is no point within the sides of a document."""
    if not is_within(document[:2], point):
        raise NotAllowed("not a point of the document")


def pixel_seen(document, opens, point, pixels):
    """Returns the pixel of the plain picture at a point where open layers have some pixels."""
    check_open(document, opens)
    check_place(document, point)
    if len(pixels) != len(opens):
        raise NotAllowed("not a pixel for each open layer")
    for pixel in pixels:
        check_pixel(pixel)
    return pixel_told(layers_there(document[2], point, opens), pixels)
