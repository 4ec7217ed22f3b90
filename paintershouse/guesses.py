"""Guesses at levels: differences from them, guesses of rows, and the points of passes."""

from paintershouse.errors import NotAllowed
from paintershouse.pictures import check_size, pixel_at, points_of, size_of

MANY_GUESSES = 5
# How far the points of each pass are from one another.
STEPS = (8, 4, 2, 1)


def folded(difference):
    """Returns the folded number of an integer, modulo 16."""
    turned = (difference + 8) % 16 - 8
    if turned >= 0:
        return 2 * turned
    return -2 * turned - 1


def unfolded(number):
    """Returns the difference with a folded number."""
    if not 0 <= number <= 15:
        raise NotAllowed("not a folded number")
    if number % 2 == 0:
        return number // 2
    return -(number + 1) // 2


def guessed(guess, left, above, corner):
    """Returns the tuple of the four levels that a guess tells by three pixels."""
    if not 0 <= guess < MANY_GUESSES:
        raise NotAllowed("not a guess")
    return tuple([_level(guess, left[k], above[k], corner[k]) for k in range(4)])


def _level(guess, left, above, corner):
    """Returns the level that a guess tells by three levels."""
    if guess == 0:
        return 0
    if guess == 1:
        return left
    if guess == 2:
        return above
    if guess == 3:
        return (left + above) // 2
    aim = left + above - corner
    best = left
    for level in (above, corner):
        if abs(level - aim) < abs(best - aim):
            best = level
    return best


def best_guesses(picture):
    """Returns the list of the guesses that make the bits of each row fewest."""
    _, high = size_of(picture)
    guesses = []
    for y in range(high):
        sizes = [_row_size(picture, y, guess) for guess in range(MANY_GUESSES)]
        guesses.append(sizes.index(min(sizes)))
    return guesses


def _row_size(picture, y, guess):
    """Returns the number of bits of all differences in a row."""
    size = 0
    for x, pixel in enumerate(picture[y]):
        left, above = pixel_at(picture, (x - 1, y)), pixel_at(picture, (x, y - 1))
        levels = guessed(guess, left, above, pixel_at(picture, (x - 1, y - 1)))
        for level, told in zip(pixel, levels):
            # A gamma has as many zeros as its digits, less one.
            size += 2 * (folded(level - told) + 1).bit_length() - 1
    return size


def pass_points(wide, high, number):
    """Returns the list of the points of a pass, in order."""
    check_size(wide, high)
    if not 0 <= number < len(STEPS):
        raise NotAllowed("not a pass")
    points = points_of(wide, high)
    step = STEPS[number]
    if number == 0:
        return [(x, y) for x, y in points if x % step == 0 and y % step == 0]
    # What is in an earlier pass is a point of the double step.
    return [(x, y) for x, y in points if _is_new(x, y, step)]


def _is_new(x, y, step):
    """Tells whether a point has this step, but not the double one."""
    if x % step or y % step:
        return False
    return x % (2 * step) > 0 or y % (2 * step) > 0
