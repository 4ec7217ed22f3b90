"""Inputs that the tests make themselves, the same ones in each run."""

import itertools


class Maker:
    """Makes numbers, and what is built of them, from a seed alone."""

    def __init__(self, seed):
        self.state = seed * 2654435761 % 2 ** 32

    def number(self, low, high):
        """Returns an integer from low to high."""
        self.state = (self.state * 6364136223846793005 + 1442695040888963407) % 2 ** 64
        return low + (self.state >> 33) % (high - low + 1)

    def pixel(self):
        """Returns a pixel, clear ones and those of full cover among them."""
        cover = (0, 15, self.number(1, 15))[self.number(0, 2)]
        if cover == 0:
            return (0, 0, 0, 0)
        return (self.number(0, 15), self.number(0, 15), self.number(0, 15), cover)

    def picture(self, wide, high):
        """Returns a picture with these sides."""
        return tuple(tuple(self.pixel() for _ in range(wide)) for _ in range(high))

    def points(self, wide, high, percent):
        """Returns the set of about so many percent of the points within sides."""
        return {
            (x, y) for y in range(high) for x in range(wide)
            if self.number(0, 99) < percent
        }

    def stencil(self, reach, percent, middle):
        """Returns a stencil that has (0, 0) just if it should."""
        pairs = {
            (dx, dy) for dx in range(-reach, reach + 1) for dy in range(-reach, reach + 1)
            if self.number(0, 99) < percent
        }
        pairs.discard((0, 0))
        if middle:
            pairs.add((0, 0))
        return tuple(sorted(pairs))


def plain_region(points):
    """Returns the region of a set of points, told run by run."""
    runs = []
    for x, y in points:
        if (x - 1, y) not in points:
            last = x
            while (last + 1, y) in points:
                last += 1
            runs.append((y, x, last))
    return tuple(sorted(runs))


def all_point_sets(wide, high):
    """Yields each set of points within sides."""
    grid = [(x, y) for y in range(high) for x in range(wide)]
    for bits in itertools.product((0, 1), repeat=len(grid)):
        yield {point for point, bit in zip(grid, bits) if bit}
