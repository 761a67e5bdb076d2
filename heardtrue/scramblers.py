"""Scramblers, which add a key to a row, and feeds, which add to each bit some of those ahead of it."""

from heardtrue.checks import is_feedback
from heardtrue.errors import ShapeError
from heardtrue.kinds import is_between, is_named
from heardtrue.machines import parity
from heardtrue.symbols import bits_of


def check_scrambler(scrambler):
    """Raises ShapeError if a thing of any kind is no scrambler."""
    if not is_named(scrambler, "scramble", 4) or not is_feedback(scrambler[1], scrambler[2]):
        raise ShapeError("scramble")
    if not is_between(scrambler[3], 1, (1 << scrambler[1]) - 1):
        raise ShapeError("scramble")


def check_feed(feed):
    """Raises ShapeError if a thing of any kind is no feed."""
    if not is_named(feed, "feed", 3) or not is_feedback(feed[1], feed[2]):
        raise ShapeError("feed")


def echo(poly, window):
    """The sum of the bits that stand as many places ahead as poly tells; the lowest bit of the window is the last."""
    return parity(window & (poly >> 1))


def slid(width, window, bit):
    """The window of the last bits behind one bit more."""
    return (2 * window + bit) & ((1 << width) - 1)


def key_of(scrambler, length):
    """The first bits of the key."""
    _, width, poly, window = scrambler
    key = bits_of(window, width)
    while len(key) < length:
        bit = echo(poly, window)
        key.append(bit)
        window = slid(width, window, bit)
    return key[:length]


def scrambled(scrambler, row):
    """The row with the key added."""
    return [bit ^ beside for bit, beside in zip(row, key_of(scrambler, len(row)))]


def period(scrambler):
    """The period of the key."""
    _, width, poly, start = scrambler
    window = slid(width, start, echo(poly, start))
    steps = 1
    # A window tells all that is ahead of it, too: so the first one that comes twice is the start.
    while window != start:
        window = slid(width, window, echo(poly, window))
        steps += 1
    return steps


def passed(feed, row, back):
    """The row with the sum of bits ahead added to each bit: of those that come out, or on the way back of the row's."""
    _, width, poly = feed
    window = 0
    out = []
    for bit in row:
        more = bit ^ echo(poly, window)
        out.append(more)
        window = slid(width, window, bit if back else more)
    return out


def fed(feed, row):
    """The row that a feed makes of a row."""
    return passed(feed, row, False)


def unfed(feed, row):
    """The row of which a feed made this one."""
    return passed(feed, row, True)
