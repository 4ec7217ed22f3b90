"""Films told by changes: keys, what they cost, and prices that show which ones are best."""

from paintershouse.errors import NotAllowed
from paintershouse.films import check_film
from paintershouse.pictures import differing, size_of
from paintershouse.regions import region_of


def change_cost(first, second):
    """Returns the cost of a change from one picture to another one."""
    points = differing(first, second)
    if not points:
        return 1
    columns, rows = [x for x, _ in points], [y for _, y in points]
    framed = (max(columns) - min(columns) + 1) * (max(rows) - min(rows) + 1)
    runs = [2 + last - first_one + 1 for _, first_one, last in region_of(points)]
    return min(2 + framed, 1 + sum(runs))


def _alone(film):
    """Returns the cost of a picture of a film alone."""
    wide, high = size_of(film[0][0])
    return wide * high


def _costs(film):
    """Returns the list of the costs of the changes to all frames, each from the one ahead; 0 for the first one."""
    pictures = [picture for picture, _ in film]
    return [0] + [change_cost(one, other) for one, other in zip(pictures, pictures[1:])]


def _check_keys(film, keys):
    """Raises NotAllowed if a tuple of integers is not keys of a film."""
    check_film(film)
    if not keys or keys[0] != 0 or keys[-1] >= len(film):
        raise NotAllowed("not keys of the film")
    for k in range(1, len(keys)):
        if keys[k - 1] >= keys[k]:
            raise NotAllowed("keys that do not ascend")


def works_of(film, keys):
    """Returns the list of the works of the frames of a film."""
    _check_keys(film, keys)
    works = []
    for k, cost in enumerate(_costs(film)):
        works.append(_alone(film) if k in keys else works[-1] + cost)
    return works


def keys_cost(film, limit, keys):
    """Returns the cost of keys that are quick for a limit."""
    if max(works_of(film, keys)) > limit:
        raise NotAllowed("keys that are not quick")
    changes = [cost for k, cost in enumerate(_costs(film)) if k not in keys]
    return _alone(film) * len(keys) + sum(changes)


def _check_limit(film, limit):
    check_film(film)
    if limit < _alone(film):
        raise NotAllowed("a limit below the cost of a picture")


def _spans(film, limit):
    """Returns a list of the triples of a frame, one behind it, and the cost of all from the first up to the other.

    The first one is told by its picture, the others by changes; there are all
    spans with no more work than a limit, by their ends.
    """
    costs = _costs(film)
    spans = []
    for end in range(1, len(film) + 1):
        for start in range(end):
            cost = _alone(film) + sum(costs[start + 1:end])
            if cost <= limit:
                spans.append((start, end, cost))
    return spans


def _best_ahead(film, limit):
    """Returns the list of the best keys up to each frame, as triples of their cost, their number, and the keys."""
    best = [(0, 0, ())] * (len(film) + 1)
    for start, end, cost in _spans(film, limit):
        ahead, many, keys = best[start]
        choice = (ahead + cost, many + 1, keys + (start,))
        if best[end][1] == 0 or choice < best[end]:
            best[end] = choice
    return best


def best_keys(film, limit):
    """Returns the best keys of a film for a limit."""
    _check_limit(film, limit)
    return _best_ahead(film, limit)[-1][2]


def best_prices(film, limit):
    """Returns right prices whose last one is the cost of the best keys."""
    _check_limit(film, limit)
    return tuple([cost for cost, _, _ in _best_ahead(film, limit)])


def are_prices(film, limit, prices):
    """Returns True if a tuple of integers is right prices, otherwise False."""
    _check_limit(film, limit)
    if len(prices) != len(film) + 1 or prices[0] != 0:
        return False
    return all([prices[end] - prices[start] <= cost for start, end, cost in _spans(film, limit)])
