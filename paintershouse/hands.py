"""Several hands: whether they make the same in all orders, and papers that show where they do not."""

from itertools import permutations

from paintershouse.deeds import done_all
from paintershouse.errors import Missing, NotAllowed
from paintershouse.forms import FormBook, check_plain, picture_apart
from paintershouse.pictures import pixel_at, points_of, size_of
from paintershouse.regions import is_within, region_of

MAX_HANDS = 4


def _check_hands(sides, hands):
    """Raises NotAllowed if there are no such sides, too few or too many hands, or rows that are not plain."""
    check_plain(sides, ())
    if not 1 <= len(hands) <= MAX_HANDS:
        raise NotAllowed("not a number of hands")
    for deeds in hands:
        check_plain(sides, deeds)


def _orders_apart(book, forms, at):
    """Returns two orders in which forms have different entries at a place, each with its entry, or the empty tuple."""
    orders = list(permutations(range(len(forms))))
    first = book.entry_at(forms, at)
    for order in orders:
        entry = book.entry_at([forms[k] for k in order], at)
        if entry != first:
            return ((orders[0], first), (order, entry))
    return ()


def dispute(sides, hands):
    """Returns the region of the points at which hands do not agree."""
    _check_hands(sides, hands)
    book = FormBook(sides)
    forms = [book.row(deeds) for deeds in hands]
    points = points_of(sides[0], sides[1])
    return region_of([point for at, point in enumerate(points) if _orders_apart(book, forms, at)])


def do_agree(sides, hands):
    """Returns True if hands agree at all points, otherwise False."""
    return dispute(sides, hands) == ()


def dispute_paper(sides, hands, point):
    """Returns two orders, a picture, and a point at which hands make different pixels of it in these orders."""
    _check_hands(sides, hands)
    if not is_within(sides, point):
        raise NotAllowed("not a point within the sides")
    book = FormBook(sides)
    apart = _orders_apart(book, [book.row(deeds) for deeds in hands], point[1] * sides[0] + point[0])
    if not apart:
        raise Missing("hands that agree at this point")
    (first, entry), (second, other) = apart
    return (first, second, picture_apart(sides, book.told(entry), book.told(other)), point)


def judge_dispute(sides, hands, paper):
    """Returns True if a paper shows that hands do not agree at a point, otherwise False."""
    _check_hands(sides, hands)
    first, second, picture, point = paper
    for order in (first, second):
        if sorted(order) != list(range(len(hands))):
            return False
    if size_of(picture) != sides or not is_within(sides, point):
        return False
    one, other = _made(picture, hands, first), _made(picture, hands, second)
    return pixel_at(one, point) != pixel_at(other, point)


def _made(picture, hands, order):
    """Returns the picture behind hands in an order."""
    for k in order:
        picture = done_all(picture, hands[k])
    return picture
