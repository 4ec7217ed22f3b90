"""The parts and holes of a region, and papers that tell whether points are joined."""

from paintershouse.errors import NotAllowed
from paintershouse.regions import check_region, has, is_region, points_in, region_of

STEPS_4 = ((0, -1), (-1, 0), (1, 0), (0, 1))
STEPS_8 = ((-1, -1), (0, -1), (1, -1), (-1, 0), (1, 0), (-1, 1), (0, 1), (1, 1))

# A point counts in four windows; the weights tell its place in each one apart.
PLACES = ((0, 0, 1), (1, 0, 2), (0, 1, 4), (1, 1, 8))
ONE_POINT = (1, 2, 4, 8)
THREE_POINTS = (7, 11, 13, 14)
TWO_ACROSS = (6, 9)


def check_ways(ways):
    """Raises NotAllowed if an integer is neither 4 nor 8."""
    if ways not in (4, 8):
        raise NotAllowed("ways are 4 or 8")


def neighbours(point, ways):
    """Returns the list of the neighbours of a point."""
    x, y = point
    steps = STEPS_4 if ways == 4 else STEPS_8
    return [(x + dx, y + dy) for dx, dy in steps]


def reached(there, start, ways):
    """Returns a dict of all points joined to the start within the dict `there`, in steps from it.

    Each point is told with the one ahead of it on a shortest path from the start.
    """
    ahead = {start: None}
    edge = [start]
    while edge:
        fresh = []
        for point in edge:
            for near in neighbours(point, ways):
                if near in there and near not in ahead:
                    ahead[near] = point
                    fresh.append(near)
        edge = fresh
    return ahead


def _split(points, ways):
    """Returns the parts of points that stand in order, each one as a list of points."""
    there = {point: True for point in points}
    seen = set()
    found = []
    for point in points:
        if point not in seen:
            part = list(reached(there, point, ways))
            for other in part:
                seen.add(other)
            found.append(part)
    return found


def _hole_points(region, ways):
    """Returns the holes, each one as a list of points."""
    taken = set(points_in(region))
    # A frame one point wide around the region joins all that is outside.
    bottom = max([run[0] for run in region], default=0) + 1
    right = max([run[2] for run in region], default=0) + 1
    square = [(x, y) for y in range(-1, bottom + 1) for x in range(-1, right + 1)]
    free_parts = _split([point for point in square if point not in taken], 12 - ways)
    # The first free point is a corner of the frame, so the first part is the outside.
    return free_parts[1:]


def parts(region, ways):
    """Returns the list of the parts of a region, in the order of their first points."""
    check_region(region)
    check_ways(ways)
    return [region_of(part) for part in _split(points_in(region), ways)]


def holes(region, ways):
    """Returns the list of the holes of a region, in the order of their first points."""
    check_region(region)
    check_ways(ways)
    return [region_of(hole) for hole in _hole_points(region, ways)]


def filled(region, ways):
    """Returns a region with its holes."""
    check_region(region)
    check_ways(ways)
    points = points_in(region)
    for hole in _hole_points(region, ways):
        points.extend(hole)
    return region_of(points)


def parts_less_holes(region, ways):
    """Returns the number of the parts of a region less that of its holes.

    They are not looked for: the windows tell the number.
    """
    check_region(region)
    check_ways(ways)
    across = 2 if ways == 4 else -2
    number = 0
    for window in _windows(region):
        if window in ONE_POINT:
            number += 1
        elif window in THREE_POINTS:
            number -= 1
        elif window in TWO_ACROSS:
            number += across
    return number // 4


def _windows(region):
    """Returns for each window with points of a region the sum of their weights."""
    sums = {}
    for x, y in points_in(region):
        for left, up, weight in PLACES:
            corner = (x - left, y - up)
            sums[corner] = sums.get(corner, 0) + weight
    return list(sums.values())


def _check_join(region, ways, first, second):
    check_region(region)
    check_ways(ways)
    if not has(region, first) or not has(region, second):
        raise NotAllowed("not a point of the region")


def join_paper(region, ways, first, second):
    """Returns a path from the first point to the second one, or a wall for both."""
    _check_join(region, ways, first, second)
    there = {point: True for point in points_in(region)}
    ahead = reached(there, first, ways)
    if second not in ahead:
        return ("wall", region_of(list(ahead)))
    path = [second]
    while path[-1] != first:
        path.append(ahead[path[-1]])
    return ("path", tuple(path[::-1]))


def judge_join(region, ways, first, second, paper):
    """Tells whether a paper is a right path, or a right wall, for two points."""
    _check_join(region, ways, first, second)
    word, told = paper
    if word == "path":
        return _leads_on(region, ways, told) and told[0] == first and told[-1] == second
    if word == "wall":
        return _closes_off(region, ways, told) and has(told, first) and not has(told, second)
    return False


def _leads_on(region, ways, told):
    if not told:
        return False
    for k, point in enumerate(told):
        if len(point) != 2 or not has(region, point):
            return False
        if k > 0 and point not in neighbours(told[k - 1], ways):
            return False
    return True


def _closes_off(region, ways, told):
    """Tells whether runs are a region in another one that has with each point all its neighbours there."""
    if not is_region(told):
        return False
    there = set(points_in(region))
    inside = set(points_in(told))
    for point in points_in(told):
        if point not in there:
            return False
        for near in neighbours(point, ways):
            if near in there and near not in inside:
                return False
    return True
