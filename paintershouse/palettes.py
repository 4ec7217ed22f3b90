"""Palettes: a few pixels to which pictures are reduced, and the best ones of candidates."""

from paintershouse.errors import NotAllowed
from paintershouse.pixels import check_pixel

MAX_PALETTE = 8
MAX_CANDIDATES = 14


def _check_pixels(pixels, most):
    """Raises NotAllowed if a tuple is not an ascending one of at most so many different pixels."""
    if not 1 <= len(pixels) <= most:
        raise NotAllowed("not a number of pixels")
    for pixel in pixels:
        check_pixel(pixel)
    for k in range(1, len(pixels)):
        if pixels[k - 1] >= pixels[k]:
            raise NotAllowed("pixels that do not ascend")


def check_palette(palette):
    """Raises NotAllowed if a tuple is not a palette."""
    _check_pixels(palette, MAX_PALETTE)


def distance_of(first, second):
    """Returns the distance of two pixels."""
    return sum([(one - other) * (one - other) for one, other in zip(first, second)])


def _nearest(palette, pixel):
    distances = [distance_of(pixel, other) for other in palette]
    return palette[distances.index(min(distances))]


def nearest(palette, pixel):
    """Returns the pixel of a palette that is nearest to a pixel."""
    check_palette(palette)
    return _nearest(palette, pixel)


def reduced(picture, palette):
    """Returns a picture, reduced by a palette."""
    check_palette(palette)
    return tuple([tuple([_nearest(palette, pixel) for pixel in row]) for row in picture])


def loss_of(picture, palette):
    """Returns the loss of a picture by a palette."""
    made = reduced(picture, palette)
    pairs = [pair for rows in zip(picture, made) for pair in zip(rows[0], rows[1])]
    return sum([distance_of(pixel, other) for pixel, other in pairs])


def check_many(k):
    """Raises NotAllowed if an integer is not how many pixels, or levels, there may be."""
    if not 1 <= k <= MAX_PALETTE:
        raise NotAllowed("not a number of pixels")


def best_palette(picture, candidates, k):
    """Returns the best palette of a picture from candidates, with at most k pixels."""
    _check_pixels(candidates, MAX_CANDIDATES)
    check_many(k)
    counts = {}
    for row in picture:
        for pixel in row:
            counts[pixel] = counts.get(pixel, 0) + 1
    # For each candidate what would be lost of each pixel, wherever it is, if it became this one.
    losses = [[counts[pixel] * distance_of(pixel, other) for pixel in counts] for other in candidates]
    best = {}
    _try_longer(losses, [], (), k, best)
    size = min([(best[many][0], many) for many in best])[1]
    return tuple([candidates[at] for at in best[size][1]])


def _try_longer(losses, left, chosen, k, best):
    """Tries all choices of at most k candidates that begin with some of which so much is lost of each pixel.

    For each number of candidates the least loss, and the first choice with it,
    are put into a dict; they are tried in order.
    """
    for at in range(chosen[-1] + 1 if chosen else 0, len(losses)):
        longer = chosen + (at,)
        lost = losses[at]
        if chosen:
            lost = [old if old < new else new for old, new in zip(left, lost)]
        loss = sum(lost)
        if len(longer) not in best or loss < best[len(longer)][0]:
            best[len(longer)] = (loss, longer)
        if len(longer) < k:
            _try_longer(losses, lost, longer, k, best)
