"""Dithers: grey pictures of few levels, by thresholds, or with what is left over carried on."""

from paintershouse.errors import NotAllowed
from paintershouse.scales import check_grey, check_scale

MAX_ORDER = 3


def _check_order(n):
    if not 0 <= n <= MAX_ORDER:
        raise NotAllowed("not an order of thresholds")


def thresholds(n):
    """Returns the thresholds of an order."""
    _check_order(n)
    square = ((0,),)
    for _ in range(n):
        above = [_times_four(row, 0) + _times_four(row, 2) for row in square]
        below = [_times_four(row, 3) + _times_four(row, 1) for row in square]
        square = tuple(above + below)
    return square


def _times_four(row, more):
    return tuple([4 * number + more for number in row])


def ordered(picture, scale, n):
    """Returns a grey picture, ordered by a scale and the thresholds of an order."""
    check_grey(picture)
    check_scale(scale)
    square = thresholds(n)
    rows = []
    for y, row in enumerate(picture):
        line = square[y % len(square)]
        rows.append(tuple([_stepped(level, scale, line[x % len(line)], len(line)) for x, level in enumerate(row)]))
    return tuple(rows)


def _stepped(level, scale, threshold, side):
    """Returns the level of a scale that a level becomes, at a threshold of a square with a side."""
    if level <= scale[0]:
        return scale[0]
    if level >= scale[-1]:
        return scale[-1]
    low = max([step for step in scale if step <= level])
    high = scale[scale.index(low) + 1]
    return high if (level - low) * side * side > threshold * (high - low) else low


def carried(picture, scale):
    """Returns a carried grey picture, and what is lost."""
    check_grey(picture)
    check_scale(scale)
    wide, lost = len(picture[0]), 0
    # To the left and right of a row, and below the last one, is where what is carried is lost.
    coming = [0] * (wide + 2)
    rows = []
    for row in picture:
        here, coming = coming, [0] * (wide + 2)
        made = []
        for x, level in enumerate(row):
            wanted = 16 * level + here[x + 1]
            step = _nearest_step(scale, wanted)
            rest = wanted - 16 * step
            made.append(step)
            right, left_below, below = 7 * rest // 16, 3 * rest // 16, 5 * rest // 16
            here[x + 2] += right
            coming[x] += left_below
            coming[x + 1] += below
            coming[x + 2] += rest - right - left_below - below
        lost += here[wide + 1] + coming[0] + coming[wide + 1]
        coming[0] = coming[wide + 1] = 0
        rows.append(tuple(made))
    return (tuple(rows), lost + sum(coming))


def _nearest_step(scale, wanted):
    """Returns the level of a scale that is nearest to a number of sixteenths, of several the least one."""
    distances = [abs(16 * step - wanted) for step in scale]
    return scale[distances.index(min(distances))]
