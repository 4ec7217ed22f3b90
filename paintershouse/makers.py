"""Who made it: the deeds that matter at a point, and where its pixel comes from."""

from paintershouse.errors import NotAllowed
from paintershouse.forms import FormBook, check_plain, deed_form
from paintershouse.pictures import points_of
from paintershouse.regions import is_within, region_of


def _check_point(sides, deeds, point):
    check_plain(sides, deeds)
    if not is_within(sides, point):
        raise NotAllowed("not a point within the sides")


def _deed_forms(book, deeds):
    """Returns the list of the entries of the forms of deeds."""
    return [book.taken(deed_form(book.sides, deed)) for deed in deeds]


def makers(sides, deeds, point):
    """Returns the ascending list of the indexes of the makers of a point."""
    _check_point(sides, deeds, point)
    book = FormBook(sides)
    forms = _deed_forms(book, deeds)
    at = point[1] * sides[0] + point[0]
    entry = book.entry_at(forms, at)
    return [k for k in range(len(forms)) if book.entry_at(forms[:k] + forms[k + 1:], at) != entry]


def made_by_deed(sides, deeds, index):
    """Returns the region of the points of which a deed is a maker."""
    check_plain(sides, deeds)
    if not 0 <= index < len(deeds):
        raise NotAllowed("not the index of a deed")
    book = FormBook(sides)
    forms = _deed_forms(book, deeds)
    ahead, rest = book.all_behind(forms[:index]), book.all_behind(forms[index + 1:])
    whole = book.put_behind(book.put_behind(ahead, forms[index]), rest)
    left = book.put_behind(ahead, rest)
    points = points_of(sides[0], sides[1])
    return region_of([point for at, point in enumerate(points) if whole[at] != left[at]])


def origin(sides, deeds, point):
    """Returns the point from which the pixel at a point comes, or None if it is the same for all pictures."""
    _check_point(sides, deeds, point)
    book = FormBook(sides)
    entry = book.entry_at(_deed_forms(book, deeds), point[1] * sides[0] + point[0])
    if len(entry) == 4:
        return None
    return book.point(entry[0])
