"""Bits, and the symbols that stand for groups of them."""

from heardtrue.errors import ShapeError
from heardtrue.kinds import is_between, is_tuple_between
from heardtrue.points import minus, size

LIMIT = 1000


def number_of(bits):
    """The number that bits write, the highest one first."""
    number = 0
    for bit in bits:
        number = 2 * number + bit
    return number


def bits_of(number, many):
    """The lowest bits of a number, so many, the highest one first."""
    return [(number >> place) & 1 for place in reversed(range(many))]


def numbers_in(row, many):
    """The numbers that the groups of so many bits of a row write."""
    if len(row) % many != 0:
        raise ShapeError("row")
    return [number_of(row[at:at + many]) for at in range(0, len(row), many)]


def row_for(numbers, many):
    """The row in which so many bits write each of the numbers."""
    return [bit for number in numbers for bit in bits_of(number, many)]


def check_symbols(symbols):
    """Raises ShapeError with the first name that applies, if there is one."""
    bits, points = symbols[1], symbols[2]
    if not is_between(bits, 1, 4):
        raise ShapeError("bits")
    if len(points) != 1 << bits:
        raise ShapeError("many")
    if not all([is_tuple_between(point, 2, -LIMIT, LIMIT) for point in points]):
        raise ShapeError("point")
    if len({(x % 2, y % 2) for x, y in points}) > 1:
        raise ShapeError("alike")
    if len(set(points)) != len(points):
        raise ShapeError("twice")


def levels(bits):
    """The symbols of so many bits that stand in grey order on a straight line."""
    if not is_between(bits, 1, 4):
        raise ShapeError("bits")
    many = 1 << bits
    points = [(0, 0)] * many
    for place in range(many):
        points[place ^ (place // 2)] = (2 * place - many + 1, 0)
    return ("symbols", bits, tuple(points))


def square(bits):
    """The symbols of so many bits whose x and y are levels of half of the bits each."""
    if bits not in (2, 4):
        raise ShapeError("bits")
    parts = [point[0] for point in levels(bits // 2)[2]]
    return ("symbols", bits, tuple([(x, y) for x in parts for y in parts]))


def points_of(symbols, row):
    """The points for a row of bits."""
    return [symbols[2][index] for index in numbers_in(row, symbols[1])]


def nearest(symbols, point):
    """The index of the nearest symbol, of several ones the least index."""
    sizes = [size(minus(symbol, point)) for symbol in symbols[2]]
    return sizes.index(min(sizes))


def row_near(symbols, points):
    """The row of the bits of the symbols that are nearest to the points."""
    return row_for([nearest(symbols, point) for point in points], symbols[1])


def closeness(symbols):
    """The least size of the difference of two of the symbols."""
    points = symbols[2]
    return min([size(minus(one, other)) for at, one in enumerate(points) for other in points[:at]])
