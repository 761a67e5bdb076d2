"""Checks of rows of bits, and what they do not see."""

from heardtrue.errors import ShapeError
from heardtrue.kinds import is_between, is_integer, is_named
from heardtrue.symbols import bits_of


def is_feedback(width, poly):
    """True for a width from 1 to 16 and a number with one bit more, whose lowest one is 1; both are of any kind."""
    if not is_between(width, 1, 16) or not is_integer(poly) or poly < 0:
        return False
    return poly.bit_length() == width + 1 and poly & 1 == 1


def check_check(check):
    """Raises ShapeError if a thing of any kind is no check."""
    if not is_named(check, "check", 3) or not is_feedback(check[1], check[2]):
        raise ShapeError("check")


def pushed(check, rest, bit):
    """The rest of a row with one bit more behind it, by the rest of the row."""
    _, width, poly = check
    more = 2 * rest + bit
    return more ^ poly if more >> width == 1 else more


def rest_of(check, row):
    """The rest of the polynomial of a row."""
    rest = 0
    for bit in row:
        rest = pushed(check, rest, bit)
    return rest


def check_bits(check, row):
    """The check of a row."""
    width = check[1]
    return bits_of(rest_of(check, row + [0] * width), width)


def is_right(check, row):
    """True if a row with a check at its end is right."""
    return rest_of(check, row) == 0


def span(check):
    """The least exponent from 1 on for which the power of x leaves the rest 1."""
    one = rest_of(check, [1])
    rest = pushed(check, one, 0)
    exponent = 1
    while rest != one:
        rest = pushed(check, rest, 0)
        exponent += 1
    return exponent


def fewest_unseen(check, length):
    """The least number of ones of a spoiling that is not seen, and the least such spoiling; None without one."""
    rests = power_rests(check, length)
    fewest = fewest_ones(check, rests)
    # The first 1 of a spoiling can have any exponent; behind it stand as few as come to the same rest.
    counts = [None if fewest[top][rest] is None else fewest[top][rest] + 1 for top, rest in enumerate(rests)]
    least = min([count for count in counts if count is not None], default=None)
    if least is None:
        return None
    top = counts.index(least)
    ones = [top] + least_ones(fewest, rests, top)
    return (least, [1 if exponent in ones else 0 for exponent in reversed(range(length))])


def power_rests(check, length):
    """The rests of the powers of x with exponents from 0 on."""
    rests = []
    rest = rest_of(check, [1])
    for _ in range(length):
        rests.append(rest)
        rest = pushed(check, rest, 0)
    return rests


def fewest_ones(check, rests):
    """For each number of exponents from 0 on: by the rests, how many ones at these come to it at least, or None."""
    many = 1 << check[1]
    fewest = [[0] + [None] * (many - 1)]
    for power in rests:
        last = fewest[-1]
        fewest.append([lesser(last[rest], last[rest ^ power]) for rest in range(many)])
    return fewest


def lesser(without, beside):
    """The lesser one of a number of ones and another one with one more; None stands for no way."""
    if beside is None:
        return without
    return beside + 1 if without is None else min(without, beside + 1)


def least_ones(fewest, rests, top):
    """The exponents of the ones behind the first one, for the least list."""
    ones = []
    rest = rests[top]
    left = fewest[top][rest]
    for exponent in reversed(range(top)):
        # A 0 comes first, if as few ones as are left can still stand behind it.
        if fewest[exponent][rest] != left:
            ones.append(exponent)
            rest = rest ^ rests[exponent]
            left -= 1
    return ones
