"""Mixes of the symbols of words, and delays, which mix a stream without an end."""

from heardtrue.errors import ShapeError
from heardtrue.kinds import is_between, is_integer, is_named


def check_mix(mix, words, n):
    """Raises ShapeError unless a thing of any kind is a mix that mixes so many words of n symbols."""
    if not is_named(mix, "mix", 3) or not all([is_integer(part) and part >= 1 for part in mix[1:]]):
        raise ShapeError("mix")
    if mix[1] * mix[2] != words * n:
        raise ShapeError("mix")


def order_of(mix, words, n):
    """The pairs of a word and a place in it, in the order of sending."""
    _, rows, columns = mix
    return [divmod(row * columns + column, n) for column in range(columns) for row in range(rows)]


def most_hit(mix, words, n, first, last):
    """For each word how many of its symbols stand in the order of sending from the first place up to the last one."""
    hits = [0] * words
    for word, _ in order_of(mix, words, n)[first:last]:
        hits[word] += 1
    return hits


def worst(mix, words, n, length):
    """The most symbols of one word in any stretch of so many neighbours."""
    order = [word for word, _ in order_of(mix, words, n)]
    hits = most_hit(mix, words, n, 0, length)
    most = max(hits)
    for gone, come in zip(order, order[length:]):
        hits[gone] -= 1
        hits[come] += 1
        most = max(most, hits[come])
    return most


def check_delays(delays):
    """Raises ShapeError for a thing of any kind that is no delays."""
    if not is_named(delays, "delays", 3) or not all([is_between(part, 1, 16) for part in delays[1:]]):
        raise ShapeError("delays")


def longer_by(delays):
    """By how much a row becomes longer."""
    _, branches, step = delays
    return step * branches * (branches - 1)


def places_of(delays, many):
    """The places at which so many symbols come out."""
    _, branches, step = delays
    return [i + step * branches * (i % branches) for i in range(many)]


def delayed(delays, row):
    """The row of what comes out."""
    out = [0] * (len(row) + longer_by(delays))
    for place, symbol in zip(places_of(delays, len(row)), row):
        out[place] = symbol
    return out


def undelayed(delays, row):
    """The row that became this one."""
    return [row[place] for place in places_of(delays, len(row) - longer_by(delays))]
