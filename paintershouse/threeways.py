"""Three films: a base, and two others that are merged where they do not clash."""

from paintershouse.errors import Missing, NotAllowed
from paintershouse.films import check_films
from paintershouse.pictures import points_of, size_of


def _check_three(base, first, second):
    """Raises NotAllowed if there are not three films with the same sides, and the same times."""
    check_films([base, first, second])
    times = [time for _, time in base]
    for film in (first, second):
        if [time for _, time in film] != times:
            raise NotAllowed("films with other times")


def _is_clash(base, one, other):
    """Tells whether two pixels clash with that of the base."""
    return one != other and one != base and other != base


def film_clash(base, first, second):
    """Returns the list of the pairs of the index of a frame and a point at which two films clash, in order."""
    _check_three(base, first, second)
    wide, high = size_of(base[0][0])
    found = []
    for k in range(len(base)):
        ground, one, other = base[k][0], first[k][0], second[k][0]
        for x, y in points_of(wide, high):
            if _is_clash(ground[y][x], one[y][x], other[y][x]):
                found.append((k, (x, y)))
    return found


def merged_film(base, first, second):
    """Returns the film that three films are merged to."""
    if film_clash(base, first, second):
        raise Missing("films that clash")
    frames = []
    for (ground, time), (one, _), (other, _) in zip(base, first, second):
        rows = [_merged_row(below, row, rest) for below, row, rest in zip(ground, one, other)]
        frames.append((tuple(rows), time))
    return tuple(frames)


def _merged_row(below, row, rest):
    """Returns the merged row of the rows of a base and of two others that do not clash."""
    return tuple([there if one == ground else one for ground, one, there in zip(below, row, rest)])
