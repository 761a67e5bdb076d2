"""Frames: what becomes of a message on its way to the line, and a message of the bits that were told."""

from heardtrue.checks import check_bits, is_right
from heardtrue.errors import ShapeError
from heardtrue.kinds import is_between
from heardtrue.links import SILENCE
from heardtrue.lines import sent, turned_line
from heardtrue.mixing import order_of
from heardtrue.scramblers import scrambled
from heardtrue.senders import points_for, sizes, tied
from heardtrue.symbols import numbers_in, row_for
from heardtrue.words import encode


def filled(row, many):
    """The row with zeros behind it, so many bits in all."""
    return row + [0] * (many - len(row))


def check_message(link, message):
    """Raises ShapeError if a list is no message of a link."""
    if len(message) > link.most_bytes() or not all([is_between(byte, 0, 255) for byte in message]):
        raise ShapeError("message")


def message_bits(link, message):
    """The bits that the words tell."""
    check_message(link, message)
    row = row_for([len(message)] + filled(message, link.most_bytes()), 8)
    row = row + check_bits(link.check, row)
    return filled(scrambled(link.scrambler, row), link.told_bits())


def words_for(link, message):
    """The words of a message."""
    symbols = numbers_in(message_bits(link, message), link.code[1])
    many = link.code[4]
    return [encode(link.code, symbols[at:at + many]) for at in range(0, len(symbols), many)]


def rows_for(link, message):
    """The rows of the runs."""
    words = words_for(link, message)
    order = order_of(link.mix, link.words, link.code[3])
    row = row_for([words[word][place] for word, place in order], link.code[1])
    bits, _ = sizes(link.sender)
    many = link.blocks() * bits
    row = filled(row, link.runs * many)
    return [row[at:at + many] for at in range(0, len(row), many)]


def sent_symbols(link):
    """For each symbol, in the order of sending, its word, its place in it, and the runs in which its bits are sent."""
    many = link.code[1]
    bits, _ = sizes(link.sender)
    room = link.blocks() * bits
    return [
        (word, place, list(range(at * many // room, (at * many + many - 1) // room + 1)))
        for at, (word, place) in enumerate(order_of(link.mix, link.words, link.code[3]))
    ]


def frame_points(link, message):
    """The points of a frame."""
    points = list(link.opening) + [(0, 0)] * (link.slack + SILENCE)
    for row in rows_for(link, message):
        points.extend(points_for(link.sender, tied(link.sender, row)) + [(0, 0)] * SILENCE)
    return points


def message_in(link, row):
    """The message that told bits tell, or the name of what is wrong with them."""
    most = link.most_bytes()
    many = 8 + 8 * most + link.check[1]
    if any(row[many:]):
        return "filling"
    clear = scrambled(link.scrambler, row[:many])
    if not is_right(link.check, clear):
        return "check"
    length, *message = numbers_in(clear[:8 + 8 * most], 8)
    if length > most:
        return "length"
    if any(message[length:]):
        return "filling"
    return message[:length]


def message_of(link, words):
    """The message that whole words tell, or the name of what is wrong with them."""
    return message_in(link, row_for([symbol for word in words for symbol in word[:link.code[4]]], link.code[1]))


def frame_samples(link, message, *, place, turn, number):
    """The samples of a frame at a place, turned, over the line with this number."""
    points = [(0, 0)] * place + frame_points(link, message) + [(0, 0)] * (link.slack - place)
    return sent(turned_line(link.lines[number], turn), points)[:link.many_samples()]
