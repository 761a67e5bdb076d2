"""Points: complex numbers with whole parts."""


def plus(one, other):
    """The sum of two points."""
    return (one[0] + other[0], one[1] + other[1])


def minus(one, other):
    """The difference of two points."""
    return (one[0] - other[0], one[1] - other[1])


def times(one, other):
    """The product of two points, as of complex numbers."""
    return (one[0] * other[0] - one[1] * other[1], one[0] * other[1] + one[1] * other[0])


def turned(point, quarters):
    """The point after so many quarter-turns, any integer."""
    x, y = point
    for _ in range(quarters % 4):
        x, y = -y, x
    return (x, y)


def size(point):
    """The size of a point."""
    return point[0] * point[0] + point[1] * point[1]


def total(points):
    """The size of a list of points: the sum of their sizes."""
    return sum([size(point) for point in points])
