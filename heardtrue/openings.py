"""Openings, by which the place, the turn and the line of a frame are found."""

from heardtrue.errors import ShapeError
from heardtrue.kinds import is_between, is_point
from heardtrue.lines import sent
from heardtrue.points import minus, size, total

MOST_POINTS = 64


def check_opening(opening):
    """Raises ShapeError if a thing of any kind is no opening."""
    if not isinstance(opening, tuple) or not is_between(len(opening), 1, MOST_POINTS):
        raise ShapeError("opening")
    if not all([is_point(point) for point in opening]) or all([point == (0, 0) for point in opening]):
        raise ShapeError("opening")


def turned(point, turn):
    """The point turned by so many quarter-turns, 0 to 3."""
    x, y = point
    return ((x, y), (-y, x), (-x, -y), (y, -x))[turn]


def told_by(opening, line, turn):
    """All that a line makes of an opening, turned."""
    return [turned(sample, turn) for sample in sent(line, list(opening))]


def shape(opening, line, turn):
    """The first samples of it, as many as the opening has points."""
    return told_by(opening, line, turn)[:len(opening)]


def arrival(opening, lines, slack, guess):
    """The samples without noise if a guess is true."""
    place, turn, number = guess
    samples = [(0, 0)] * place + told_by(opening, lines[number], turn) + [(0, 0)] * slack
    return samples[:slack + len(opening)]


def cost_at(row, place, samples):
    """The sum of the sizes of the differences between a shape and the samples from a place on."""
    spent = 0
    for point, sample in zip(row, samples[place:]):
        if sample is not None:
            spent += size(minus(point, sample))
    return spent


def cost(opening, lines, guess, samples):
    """The cost of a guess."""
    place, turn, number = guess
    return cost_at(shape(opening, lines[number], turn), place, samples)


def find(opening, lines, slack, samples):
    """The guess with the least cost, of several ones the least triple."""
    told = []
    for turn in range(4):
        for number, line in enumerate(lines):
            row = shape(opening, line, turn)
            told.extend([(cost_at(row, place, samples), (place, turn, number)) for place in range(slack + 1)])
    _, guess = min(told)
    return guess


def separation(opening, lines, slack):
    """The least distance from any guess to any other one."""
    waves = [told_by(opening, line, 0) for line in lines]
    rows = [shape(opening, line, 0) for line in lines]
    # Only by how much the places and the turns differ plays a part.
    return min([
        least_apart(shifted(wave, shift, len(opening)), row, shift == 0 and number == beside)
        for number, wave in enumerate(waves) for shift in range(-slack, slack + 1) for beside, row in enumerate(rows)
    ])


def least_apart(window, row, same):
    """The least distance of samples to a shape in all turns; without the one that does not turn if both are the same.

    It is the size of both, less twice the first part of the product of the samples, mirrored, and the shape.
    """
    x = sum([a * c + b * d for (a, b), (c, d) in zip(window, row)])
    y = sum([a * d - b * c for (a, b), (c, d) in zip(window, row)])
    turns = [-y, -x, y] if same else [x, -y, -x, y]
    return total(window) + total(row) - 2 * max(turns)


def shifted(samples, shift, many):
    """So many samples from a place on, which can lie ahead of the first one, with (0, 0) beside them."""
    if shift < 0:
        ahead = [(0, 0)] * min(-shift, many)
        found = samples[:many - len(ahead)]
    else:
        ahead = []
        found = samples[shift:shift + many]
    return ahead + found + [(0, 0)] * (many - len(ahead) - len(found))
