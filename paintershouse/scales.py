"""Scales: a few greys to which grey pictures are reduced, the best ones, and numbers that show it."""

from paintershouse.errors import NotAllowed
from paintershouse.palettes import check_many
from paintershouse.pictures import check_size
from paintershouse.pixels import check_level

MANY_LEVELS = 16
MAX_COUNT = 600


def check_grey(picture):
    """Raises NotAllowed if a tuple of tuples of integers is not a grey picture."""
    wide = len(picture[0]) if picture else 0
    check_size(wide, len(picture))
    for row in picture:
        if len(row) != wide:
            raise NotAllowed("a row with another width")
        for level in row:
            check_level(level)


def check_scale(scale):
    """Raises NotAllowed if a tuple of integers is not a scale."""
    if not scale:
        raise NotAllowed("a scale without levels")
    for k, level in enumerate(scale):
        check_level(level)
        if k > 0 and scale[k - 1] >= level:
            raise NotAllowed("levels that do not ascend")


def check_counts(counts):
    """Raises NotAllowed if a tuple of integers is not 16 counts."""
    if len(counts) != MANY_LEVELS:
        raise NotAllowed("not a count for each level")
    for count in counts:
        if not 0 <= count <= MAX_COUNT:
            raise NotAllowed("not a count")


def counts_of_levels(picture):
    """Returns the counts of a grey picture."""
    check_grey(picture)
    levels = [level for row in picture for level in row]
    return tuple([levels.count(level) for level in range(MANY_LEVELS)])


def loss_by(counts, scale):
    """Returns the loss of counts by a scale."""
    check_counts(counts)
    check_scale(scale)
    return sum([count * min([_square(level - near) for near in scale]) for level, count in enumerate(counts)])


def _square(number):
    return number * number


def _lost_below(counts, c):
    """Returns the loss of all levels from 0 to c if they become c."""
    return sum([counts[level] * _square(c - level) for level in range(c + 1)])


def _lost_above(counts, c):
    """Returns the loss of all levels from c on if they become c."""
    return sum([counts[level] * _square(level - c) for level in range(c, MANY_LEVELS)])


def _lost_between(counts, b, c):
    """Returns the loss of the levels between b and c if each becomes the nearer one."""
    return sum([counts[level] * min(_square(level - b), _square(c - level)) for level in range(b + 1, c)])


def _best_rows(counts, k):
    """Returns k rows of pairs: the least loss up to a level c, and the first scale with it, of so many levels up to c.

    Where there are not so many levels, there is the empty tuple.
    """
    rows = [[(_lost_below(counts, c), (c,)) for c in range(MANY_LEVELS)]]
    for j in range(1, k):
        row = []
        for c in range(MANY_LEVELS):
            choices = []
            for b in range(j - 1, c):
                loss, scale = rows[-1][b]
                choices.append((loss + _lost_between(counts, b, c), scale + (c,)))
            row.append(min(choices) if choices else ())
        rows.append(row)
    return rows


def best_scale(counts, k):
    """Returns the best scale for counts, with at most k levels."""
    check_counts(counts)
    check_many(k)
    choices = []
    for row in _best_rows(counts, k):
        for pair in row:
            if pair:
                loss, scale = pair
                choices.append((loss + _lost_above(counts, scale[-1]), len(scale), scale))
    return min(choices)[2]


def true_greys(counts, k):
    """Returns the true numbers for counts and k."""
    check_counts(counts)
    check_many(k)
    return tuple([tuple([pair[0] if pair else -1 for pair in row]) for row in _best_rows(counts, k)])


def judge_greys(counts, k, bound, numbers):
    """Returns True if numbers are right for a bound, otherwise False."""
    check_counts(counts)
    check_many(k)
    if len(numbers) != k:
        return False
    for j, row in enumerate(numbers):
        if len(row) != MANY_LEVELS:
            return False
        for c, number in enumerate(row):
            if j > c:
                if number != -1:
                    return False
            elif number > _most_there(counts, numbers, j, c) or number + _lost_above(counts, c) < bound:
                return False
    return True


def _most_there(counts, numbers, j, c):
    """Returns the greatest integer that may stand at a place of numbers, by the row ahead."""
    if j == 0:
        return _lost_below(counts, c)
    return min([numbers[j - 1][b] + _lost_between(counts, b, c) for b in range(j - 1, c)])
