"""Sides, runs and regions, and what sets of points make of them."""

from paintershouse.errors import NotAllowed
from paintershouse.pictures import MAX_SIDE, check_size, points_of


def check_sides(sides):
    """Raises NotAllowed if a pair of integers is not sides."""
    wide, high = sides
    check_size(wide, high)


def is_region(region):
    """Tells whether a tuple of tuples of integers is a region."""
    last_y, last_x = -1, -1
    for run in region:
        if len(run) != 3:
            return False
        y, first, last = run
        if not 0 <= y < MAX_SIDE or not 0 <= first <= last < MAX_SIDE:
            return False
        # Behind a run of the same row a column stays free.
        if y < last_y or (y == last_y and first < last_x + 2):
            return False
        last_y, last_x = y, last
    return True


def check_region(region):
    """Raises NotAllowed if a tuple of triples of integers is not a region."""
    if not is_region(region):
        raise NotAllowed("not a region")


def is_within(sides, point):
    """Tells whether a point is within sides."""
    return 0 <= point[0] < sides[0] and 0 <= point[1] < sides[1]


def check_within(sides, region):
    """Raises NotAllowed if two integers are not sides, or the triples no region within them."""
    check_sides(sides)
    check_region(region)
    for y, _, last in region:
        if not is_within(sides, (last, y)):
            raise NotAllowed("a region that is not within the sides")


def region_of(points):
    """Returns the region of a list of points in any order."""
    for point in points:
        if not is_within((MAX_SIDE, MAX_SIDE), point):
            raise NotAllowed("not a point of a region")
    runs = []
    for y, x in sorted({(y, x) for x, y in points}):
        if runs and runs[-1][0] == y and runs[-1][2] == x - 1:
            runs[-1] = (y, runs[-1][1], x)
        else:
            runs.append((y, x, x))
    return tuple(runs)


def points_in(region):
    """Returns the list of the points of a region, in order."""
    check_region(region)
    return [(x, y) for y, first, last in region for x in range(first, last + 1)]


def size_in(region):
    """Returns the number of the points of a region."""
    check_region(region)
    return sum([last - first + 1 for _, first, last in region])


def has(region, point):
    """Tells whether a region has a point."""
    check_region(region)
    for y, first, last in region:
        if y == point[1] and first <= point[0] <= last:
            return True
    return False


def both(first, second):
    """Returns the region of the points that two regions have in common."""
    points = points_in(first)
    also = set(points_in(second))
    return region_of([point for point in points if point in also])


def either(first, second):
    """Returns the region of the points that one of two regions has, or both have."""
    return region_of(points_in(first) + points_in(second))


def less(first, second):
    """Returns the region of the points of the first region that the second one does not have."""
    points = points_in(first)
    taken = set(points_in(second))
    return region_of([point for point in points if point not in taken])


def others(sides, region):
    """Returns the region of the points within sides that a region does not have."""
    check_within(sides, region)
    wide, high = sides
    taken = set(points_in(region))
    return region_of([point for point in points_of(wide, high) if point not in taken])


def moved(sides, region, dx, dy):
    """Returns the region whose points are moved, as far as they stay within the sides."""
    check_within(sides, region)
    points = [(x + dx, y + dy) for x, y in points_in(region)]
    return region_of([point for point in points if is_within(sides, point)])


def flipped_region(sides, region):
    """Returns the region that goes with a picture that is flipped."""
    check_within(sides, region)
    return region_of([(sides[0] - 1 - x, y) for x, y in points_in(region)])


def turned_region(sides, region):
    """Returns the region that goes with a picture that is turned."""
    check_within(sides, region)
    return region_of([(sides[1] - 1 - y, x) for x, y in points_in(region)])
