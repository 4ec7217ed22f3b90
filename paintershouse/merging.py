"""Ways to put two rows of deeds together, papers that show that they part, and rows behind a base."""

from paintershouse.deeds import MAX_DEEDS, done
from paintershouse.errors import Missing, TooLarge
from paintershouse.forms import FormBook, check_plain, deed_form, picture_apart
from paintershouse.pictures import points_of, size_of
from paintershouse.regions import region_of

MAX_MERGES = 40


def _check_both(sides, first, second):
    check_plain(sides, first)
    check_plain(sides, second)


def _first_ways(book, first, second):
    """Returns a dict of the forms of all ways together of two rows, each with its first way."""
    steps = [book.taken(deed_form(book.sides, deed)) for deed in first]
    others = [book.taken(deed_form(book.sides, deed)) for deed in second]
    # For so many deeds of the first row, and for each number of deeds of the second one, such a dict.
    cells = []
    for i in range(len(steps) + 1):
        above, cells = cells, []
        for j in range(len(others) + 1):
            ahead = []
            if i > 0:
                ahead.append((above[j], steps[i - 1], 0))
            if j > 0:
                ahead.append((cells[j - 1], others[j - 1], 1))
            cells.append(_longer_ways(book, ahead) if ahead else {book.plain(): ()})
    return cells[-1]


def _longer_ways(book, ahead):
    """Returns such a dict for one deed more, by the dicts ahead, each with the form of the next deed and its row."""
    found = {}
    for cell, step, row in ahead:
        for form in cell:
            made = book.put_behind(form, step)
            way = cell[form] + (row,)
            if made not in found or way < found[made]:
                found[made] = way
            if len(found) > MAX_MERGES:
                raise TooLarge("too many forms")
    return found


def merges(sides, first, second):
    """Returns the ascending list of those ways together that are the first one with their form."""
    _check_both(sides, first, second)
    ways = _first_ways(FormBook(sides), first, second)
    return sorted([ways[form] for form in ways])


def are_settled(sides, first, second):
    """Returns True if all ways together of two rows have the same form, otherwise False."""
    return len(merges(sides, first, second)) == 1


def parting_paper(sides, first, second):
    """Returns two ways together, and a picture of which they make different ones."""
    _check_both(sides, first, second)
    book = FormBook(sides)
    ways = _first_ways(book, first, second)
    if len(ways) == 1:
        raise Missing("rows that are settled")
    one, other = list(ways)[:2]
    at = [entry == rest for entry, rest in zip(one, other)].index(False)
    return (ways[one], ways[other], picture_apart(sides, book.told(one[at]), book.told(other[at])))


def judge_parting(sides, first, second, paper):
    """Returns True if a paper shows that two rows are not settled, otherwise False."""
    _check_both(sides, first, second)
    one, other, picture = paper
    wanted = [0] * len(first) + [1] * len(second)
    if sorted(one) != wanted or sorted(other) != wanted or size_of(picture) != sides:
        return False
    return _made(picture, first, second, one) != _made(picture, first, second, other)


def _made(picture, first, second, way):
    """Returns the picture behind two rows, put together in a way."""
    rows, places = (first, second), [0, 0]
    for row in way:
        picture = done(picture, rows[row][places[row]])
        places[row] += 1
    return picture


def clash(sides, base, first, second):
    """Returns the region of the points at which the two orders of two rows have different entries behind a base."""
    check_plain(sides, base)
    _check_both(sides, first, second)
    book = FormBook(sides)
    ahead, one, other = book.row(base), book.row(first), book.row(second)
    there, back = book.all_behind([ahead, one, other]), book.all_behind([ahead, other, one])
    points = points_of(sides[0], sides[1])
    return region_of([point for at, point in enumerate(points) if there[at] != back[at]])


def merged(sides, base, first, second):
    """Returns the row of a base and two rows that fit behind it, one after another."""
    apart = clash(sides, base, first, second)
    deeds = base + first + second
    if len(deeds) > MAX_DEEDS:
        raise TooLarge("too many deeds")
    if apart:
        raise Missing("rows that do not fit behind the base")
    return deeds
