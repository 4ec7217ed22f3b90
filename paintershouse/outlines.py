"""The outlines of a region: loops along the edges between its points and others."""

from paintershouse.errors import NotAllowed
from paintershouse.pictures import MAX_SIDE
from paintershouse.regions import points_in, region_of

# To the right, down, to the left, up: each heading is a turn to the right from the one ahead.
HEADINGS = ((1, 0), (0, 1), (-1, 0), (0, -1))


def _edges(region):
    """Returns a dict of the edges around a region, with the region at the right hand.

    An edge is a triple of y and x of the corner where it begins, and of its heading.
    """
    there = {point: True for point in points_in(region)}
    edges = {}
    for x, y in there:
        if (x, y - 1) not in there:
            edges[(y, x, 0)] = True
        if (x + 1, y) not in there:
            edges[(y, x + 1, 1)] = True
        if (x, y + 1) not in there:
            edges[(y + 1, x + 1, 2)] = True
        if (x - 1, y) not in there:
            edges[(y + 1, x, 3)] = True
    return edges


def _next_edge(edges, edge):
    """Returns the edge behind another one on its loop."""
    y, x, heading = edge
    dx, dy = HEADINGS[heading]
    end_y, end_x = y + dy, x + dx
    # The right comes first: so points that touch at a corner alone are not joined.
    for turned in ((heading + 1) % 4, heading):
        if (end_y, end_x, turned) in edges:
            return (end_y, end_x, turned)
    return (end_y, end_x, (heading + 3) % 4)


def _loop_edges(edges, start):
    """Returns the list of the edges of the loop on which an edge is, from this one on."""
    found = [start]
    edge = _next_edge(edges, start)
    while edge != start:
        found.append(edge)
        edge = _next_edge(edges, edge)
    return found


def _turns(loop_edges):
    """Returns the corners at which a loop turns, told by its edges."""
    corners = []
    for k, (y, x, heading) in enumerate(loop_edges):
        if heading != loop_edges[k - 1][2]:
            corners.append((x, y))
    return tuple(corners)


def outlines(region):
    """Returns the loops around a region."""
    edges = _edges(region)
    seen = set()
    loops = []
    # In this order each loop is met at its first corner, and no two loops have the same one.
    for start in sorted(edges):
        if start not in seen:
            found = _loop_edges(edges, start)
            for edge in found:
                seen.add(edge)
            loops.append(_turns(found))
    return tuple(loops)


def from_outlines(loops):
    """Returns the region with these outlines."""
    for loop in loops:
        for x, y in loop:
            if not 0 <= x <= MAX_SIDE or not 0 <= y <= MAX_SIDE:
                raise NotAllowed("a corner that is out of range")
    region = region_of(_points_inside(loops))
    if outlines(region) != loops:
        raise NotAllowed("not the outlines of a region")
    return region


def _points_inside(loops):
    """Returns the points for which the number of edges up to them in their row is odd."""
    many = _upright_edges(loops)
    points = []
    for y in range(MAX_SIDE):
        passed = 0
        for x in range(MAX_SIDE):
            passed += many.get((x, y), 0)
            if passed & 1:
                points.append((x, y))
    return points


def _upright_edges(loops):
    """Returns a dict: how many edges of loops there are between (x, y) and (x, y + 1)."""
    many = {}
    for loop in loops:
        for k, (x, y) in enumerate(loop):
            last_x, last_y = loop[k - 1]
            if x == last_x:
                for row in range(min(y, last_y), max(y, last_y)):
                    many[(x, row)] = many.get((x, row), 0) + 1
    return many


def area_of(loop):
    """Returns the area of a loop, below 0 for one around a hole."""
    double = 0
    for k, (x, y) in enumerate(loop):
        last_x, last_y = loop[k - 1]
        double += last_x * y - x * last_y
    return double // 2


def length_of(region):
    """Returns the number of the edges between points of a region and others."""
    return len(_edges(region))
