"""Lines: what comes out of them, and what befalls it."""

from heardtrue.errors import ShapeError
from heardtrue.kinds import is_between, is_tuple_between
from heardtrue.points import minus, plus, times, total, turned

LIMIT = 50


def check_line(line):
    """Raises ShapeError with the first name that applies, if there is one."""
    taps = line[1]
    if not isinstance(taps, tuple) or not is_between(len(taps), 1, 4):
        raise ShapeError("taps")
    if not all([is_tuple_between(tap, 2, -LIMIT, LIMIT) for tap in taps]):
        raise ShapeError("tap")
    if all([tap == (0, 0) for tap in taps]):
        raise ShapeError("nothing")


def reach(line):
    """How many samples behind its own one a point still touches."""
    return len(line[1]) - 1


def smeared(taps, points):
    """The sums of the products of taps and points whose places have the same sum; there is one of each."""
    sums = [(0, 0)] * (len(taps) + len(points) - 1)
    for place, point in enumerate(points):
        for late, tap in enumerate(taps):
            sums[place + late] = plus(sums[place + late], times(tap, point))
    return sums


def sent(line, points):
    """The samples that come out if the points are sent."""
    if len(points) == 0:
        return []
    return smeared(line[1], points)


def joined(one, other):
    """The line of one line with another one behind it."""
    # What comes out for a single point (1, 0) are the taps: so the first line's taps, sent, give those of both.
    line = ("line", tuple(smeared(other[1], one[1])))
    check_line(line)
    return line


def turned_line(line, quarters):
    """The line whose taps are turned by so many quarters."""
    return ("line", tuple([turned(tap, quarters) for tap in line[1]]))


def added(sample, point):
    """The sample with a point of the noise; a lost one stays lost."""
    if sample is None:
        return None
    return plus(sample, point)


def spoiled(samples, noise):
    """The samples with the noise added."""
    if len(samples) != len(noise):
        raise ShapeError("noise")
    return [added(sample, point) for sample, point in zip(samples, noise)]


def lost(samples, places):
    """The samples with those at the places lost."""
    left = list(samples)
    for place in places:
        if 0 <= place < len(left):
            left[place] = None
    return left


def cost(samples, points):
    """The cost of samples against as many points; lost ones don't count."""
    if len(samples) != len(points):
        raise ShapeError("samples")
    return total([minus(sample, point) for sample, point in zip(samples, points) if sample is not None])
