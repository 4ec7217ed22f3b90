"""Regions cut into the fewest rectangles, and papers that show that there are no fewer.

A cut has a rectangle less for each chord along which it goes, as long as these do not
cross. Chords along x cross chords along y alone: so pairs of chords that cross, as many as
there can be, show how many chords must be left out.
"""

from paintershouse.errors import BadPaper
from paintershouse.parts import parts_less_holes
from paintershouse.pictures import MAX_SIDE
from paintershouse.regions import points_in

RIGHT = (1, 0)
DOWN = (0, 1)


def _lookup(region):
    """Returns a dict of the points of a region, in order."""
    return {point: True for point in points_in(region)}


def _hollow_corners(there):
    """Returns a dict of the corners with just three points around."""
    around = {}
    for x, y in there:
        for corner in ((x, y), (x + 1, y), (x, y + 1), (x + 1, y + 1)):
            around[corner] = around.get(corner, 0) + 1
    return {corner: True for corner, many in around.items() if many == 3}


def _is_inner(there, x, y, step):
    """Tells whether the edge from a corner on, right or down, has points at both sides."""
    dx, dy = step
    return (x, y) in there and (x - dy, y - dx) in there


def _chords_along(there, step):
    """Returns the list of the chords that go right, or down, from their first corner."""
    hollow = _hollow_corners(there)
    dx, dy = step
    found = []
    for first in hollow:
        x, y = first
        while _is_inner(there, x, y, step):
            x, y = x + dx, y + dy
            # Behind a hollow corner the next edge lacks a point, so this is the only one.
            if (x, y) in hollow:
                found.append((first, (x, y)))
    return found


def chords(region):
    """Returns the ascending list of the chords of a region."""
    there = _lookup(region)
    return sorted(_chords_along(there, RIGHT) + _chords_along(there, DOWN))


def _do_cross(across, upright):
    """Tells whether a chord along x and one along y have a corner in common."""
    (left, y), (right, _) = across
    (x, top), (_, bottom) = upright
    return left <= x <= right and top <= y <= bottom


def _crossings(there):
    """Returns a dict: for each chord along x the list of those along y that it crosses."""
    uprights = _chords_along(there, DOWN)
    found = {}
    for across in _chords_along(there, RIGHT):
        found[across] = [upright for upright in uprights if _do_cross(across, upright)]
    return found


def _come_to(crossings, partners, starts):
    """Returns to which chords one comes from chords along x, in two dicts: along x, along y.

    One goes from a chord along x to those that it crosses, and from a chord along y to its
    partner. Each one is told with the one ahead of it.
    """
    across_from = {start: None for start in starts}
    upright_from = {}
    waiting = list(starts)
    while waiting:
        across = waiting.pop()
        for upright in crossings[across]:
            if upright not in upright_from:
                upright_from[upright] = across
                partner = partners.get(upright, None)
                if partner is not None:
                    across_from[partner] = upright
                    waiting.append(partner)
    return across_from, upright_from


def _partners(crossings):
    """Returns as many pairs of crossing chords as there can be: a dict from those along y."""
    partners = {}
    for start in crossings:
        across_from, upright_from = _come_to(crossings, partners, [start])
        free = [upright for upright in upright_from if upright not in partners]
        # On the way back to the start each chord along y changes its partner.
        upright = free[0] if free else None
        while upright is not None:
            across = upright_from[upright]
            partners[upright] = across
            upright = across_from[across]
    return partners


def _best_chords(there):
    """Returns as many chords as there can be no two of which cross (by the theorem of Koenig)."""
    crossings = _crossings(there)
    partners = _partners(crossings)
    paired = {across: True for across in partners.values()}
    lonely = [across for across in crossings if across not in paired]
    across_from, upright_from = _come_to(crossings, partners, lonely)
    uprights = _chords_along(there, DOWN)
    return list(across_from), [upright for upright in uprights if upright not in upright_from]


def _cut_edges(there):
    """Returns two dicts of the corners from which an edge of a best cut goes right, and down."""
    acrosses, uprights = _best_chords(there)
    right, down, ends = {}, {}, {}
    for first, last in uprights:
        x, top = first
        ends[first] = ends[last] = True
        for y in range(top, last[1]):
            down[(x, y)] = True
    for first, last in acrosses:
        left, y = first
        ends[first] = ends[last] = True
        for x in range(left, last[0]):
            right[(x, y)] = True
    # At all other hollow corners one cuts along x, up to the next edge or chord.
    for corner in _hollow_corners(there):
        if corner not in ends:
            for edge in _edges_across(there, down, corner):
                right[edge] = True
    return right, down


def _edges_across(there, down, corner):
    """Returns the left corners of the edges along x from a hollow corner up to what ends them."""
    x, y = corner
    found = []
    ahead = 1 if _is_inner(there, x, y, RIGHT) else -1
    while True:
        left = x if ahead == 1 else x - 1
        if not _is_inner(there, left, y, RIGHT):
            return found
        found.append((left, y))
        x += ahead
        # At the lower end of a chord the next edge lacks a point, so no look upwards is needed.
        if (x, y) in down:
            return found


def fewest_rectangles(region):
    """Returns a cut of a region with the fewest rectangles."""
    there = _lookup(region)
    right, down = _cut_edges(there)
    taken = set()
    found = []
    for x, y in there:
        if (x, y) not in taken:
            end, bottom = x + 1, y + 1
            while (end, y) in there and (end, y) not in down:
                end += 1
            while (x, bottom) in there and (x, bottom) not in right:
                bottom += 1
            found.append((x, y, end, bottom))
            for point in _points_of_rectangle(found[-1]):
                taken.add(point)
    return tuple(sorted(found))


def _points_of_rectangle(rectangle):
    left, top, right, bottom = rectangle
    return [(x, y) for y in range(top, bottom) for x in range(left, right)]


def crossing_paper(region):
    """Returns a crossing paper that shows that no cut has fewer rectangles than the best one."""
    partners = _partners(_crossings(_lookup(region)))
    return tuple(sorted([(across, upright) for upright, across in partners.items()]))


def least_by(region, paper):
    """Returns how many rectangles each cut of a region has at least, by a crossing paper."""
    there = _lookup(region)
    if not _is_crossing_paper(there, paper):
        raise BadPaper("not a crossing paper of the region")
    hollow = len(_hollow_corners(there))
    return hollow - len(chords(region)) + len(paper) + parts_less_holes(region, 4)


def _is_crossing_paper(there, paper):
    crossings = _crossings(there)
    used = set()
    for k, (across, upright) in enumerate(paper):
        if across not in crossings or upright not in crossings[across]:
            return False
        if across in used or upright in used:
            return False
        used.add(across)
        used.add(upright)
        if k > 0 and not paper[k - 1] < paper[k]:
            return False
    return True


def judge_cut(region, rectangles):
    """Tells whether rectangles are a cut of a region."""
    there = _lookup(region)
    taken = set()
    for k, rectangle in enumerate(rectangles):
        if not _is_rectangle(rectangle) or (k > 0 and not rectangles[k - 1] < rectangle):
            return False
        for point in _points_of_rectangle(rectangle):
            if point not in there or point in taken:
                return False
            taken.add(point)
    return len(taken) == len(there)


def _is_rectangle(rectangle):
    """Tells whether four integers are a rectangle within the greatest sides."""
    left, top, right, bottom = rectangle
    return 0 <= left < right <= MAX_SIDE and 0 <= top < bottom <= MAX_SIDE
