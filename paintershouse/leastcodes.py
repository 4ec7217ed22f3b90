"""Least codes: lengths with the least total, papers that show it, and codes."""

from heapq import heappop, heappush

from paintershouse.bits import written
from paintershouse.errors import NotAllowed

MAX_SIGNS = 600
MAX_COUNT = 600


def _check_counts(counts):
    """Raises NotAllowed if a tuple of integers is not counts."""
    if not 1 <= len(counts) <= MAX_SIGNS:
        raise NotAllowed("not a number of signs")
    for count in counts:
        if not 1 <= count <= MAX_COUNT:
            raise NotAllowed("not a count")


def _whole():
    """Returns the number of shares of 1 / 2 ** MAX_SIGNS in 1."""
    return 1 << MAX_SIGNS


def _taken(lengths):
    """Returns the shares that lengths take; raises NotAllowed if one is out of range."""
    taken = 0
    for length in lengths:
        if not 0 <= length <= MAX_SIGNS:
            raise NotAllowed("not a length")
        taken += _whole() >> length
    return taken


def _check_lengths(counts, lengths):
    """Raises NotAllowed if there are no such counts, or no such lengths for them."""
    _check_counts(counts)
    if len(lengths) != len(counts):
        raise NotAllowed("not a length for each sign")
    if _taken(lengths) > _whole():
        raise NotAllowed("lengths that are too short")


def tree_paper(counts):
    """Returns the tree paper of the nodes as they are made."""
    _check_counts(counts)
    nodes = [(count, -1, -1) for count in counts]
    queue = []
    for at, count in enumerate(counts):
        heappush(queue, (count, at))
    while len(queue) > 1:
        # Of nodes with the same count the one that was there earlier has the lesser index.
        low, first = heappop(queue)
        high, second = heappop(queue)
        heappush(queue, (low + high, len(nodes)))
        nodes.append((low + high, first, second))
    return tuple(nodes)


def _depths(paper):
    """Returns the list of the numbers of triples above each triple, where each stands ahead of the one above it."""
    depths = [0] * len(paper)
    for at in reversed(range(len(paper))):
        _, first, second = paper[at]
        if first >= 0:
            depths[first] = depths[second] = depths[at] + 1
    return depths


def least_lengths(counts):
    """Returns the least lengths for counts."""
    return tuple(_depths(tree_paper(counts))[:len(counts)])


def total_of(counts, lengths):
    """Returns the total of lengths for counts."""
    _check_lengths(counts, lengths)
    return sum([count * length for count, length in zip(counts, lengths)])


def judge_tree(counts, lengths, paper):
    """Returns True if a tuple of triples is a right tree paper for lengths, otherwise False."""
    _check_lengths(counts, lengths)
    if not _is_tree(counts, paper):
        return False
    return tuple(_depths(paper)[:len(counts)]) == lengths and _stand_in_pairs(paper)


def _is_tree(counts, paper):
    """Tells whether a tuple of triples puts the nodes of all signs together to one."""
    many = len(counts)
    if len(paper) != 2 * many - 1 or paper[:many] != tuple([(count, -1, -1) for count in counts]):
        return False
    used = {}
    for at in range(many, len(paper)):
        count, first, second = paper[at]
        for below in (first, second):
            if not 0 <= below < at or below in used:
                return False
            used[below] = True
        if count != paper[first][0] + paper[second][0]:
            return False
    return True


def _stand_in_pairs(paper):
    """Tells whether nodes that are put together can stand side by side, so that counts never fall."""
    pairs = []
    for _, first, second in paper:
        if first >= 0:
            low, high = sorted([paper[first][0], paper[second][0]])
            pairs.append((low, high))
    last = 0
    for low, high in sorted(pairs):
        if low < last:
            return False
        last = high
    return True


def codes_of(lengths):
    """Returns the tuple of the signs' codes for lengths."""
    if not 1 <= len(lengths) <= MAX_SIGNS or _taken(lengths) != _whole():
        raise NotAllowed("not lengths that leave nothing")
    codes = [""] * len(lengths)
    number, size = -1, 0
    for length, sign in sorted([(length, sign) for sign, length in enumerate(lengths)]):
        number = (number + 1) << (length - size)
        size = length
        codes[sign] = written(number, length)
    return tuple(codes)
