"""Levels, pixels, modes, and a pixel above another one."""

from paintershouse.errors import NotAllowed

MAX_LEVEL = 15
CLEAR = (0, 0, 0, 0)
MODES = ("plain", "darker", "lighter", "times", "screen", "apart")


def is_level(level):
    """Tells whether an integer is a level."""
    return 0 <= level <= MAX_LEVEL


def is_pixel(pixel):
    """Tells whether a tuple of integers is a pixel."""
    if len(pixel) != 4:
        return False
    for level in pixel:
        if not is_level(level):
            return False
    return pixel[3] > 0 or pixel == CLEAR


def check_pixel(pixel):
    """Raises NotAllowed if a tuple of integers is no pixel."""
    if not is_pixel(pixel):
        raise NotAllowed("not a pixel")


def check_level(level):
    """Raises NotAllowed if an integer is no level."""
    if not is_level(level):
        raise NotAllowed("not a level")


def check_mode(mode):
    """Raises NotAllowed if a text is no mode."""
    if mode not in MODES:
        raise NotAllowed("not a mode")


def scaled(first, second):
    """Returns two levels, scaled."""
    return (first * second + 7) // 15


def mixed(first, second, level):
    """Returns two levels, mixed at a level."""
    return (first * (15 - level) + second * level + 7) // 15


def put_together(mode, below, above):
    """Returns what a mode makes of a colour below and a colour above."""
    if mode == "darker":
        return min(below, above)
    if mode == "lighter":
        return max(below, above)
    if mode == "times":
        return scaled(below, above)
    if mode == "screen":
        return 15 - scaled(15 - below, 15 - above)
    if mode == "apart":
        return abs(below - above)
    return above


def blended(mode, below, above, level):
    """Returns the pixel that is seen of a pixel above another one."""
    over = scaled(above[3], level)
    rest = scaled(below[3], 15 - over)
    cover = over + rest
    if cover == 0:
        return CLEAR
    colours = []
    for k in range(3):
        made = put_together(mode, below[k], above[k])
        colour = mixed(above[k], made, below[3])
        colours.append((below[k] * rest + colour * over + cover // 2) // cover)
    return (colours[0], colours[1], colours[2], cover)


def faded(pixel, level):
    """Returns a pixel, faded by a level."""
    cover = scaled(pixel[3], 15 - level)
    if cover == 0:
        return CLEAR
    return (pixel[0], pixel[1], pixel[2], cover)
