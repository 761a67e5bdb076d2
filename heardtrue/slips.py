"""Lines that slip: they give samples twice or not at all, and their runs are heard all the same."""

from heardtrue.errors import ShapeError
from heardtrue.kinds import is_integer, is_named
from heardtrue.lines import cost
from heardtrue.points import minus, size
from heardtrue.potentials import are_right, gap_of, least_end, potentials_of
from heardtrue.senders import labels_in, sizes
from heardtrue.smears import Rooms, first_room, outward
from heardtrue.symbols import row_for
from heardtrue.trellises import best_path, grown, layers_through, thinned

MOST_POINTS = 5
# A label is multiplied by this for each number of samples, so that their copies have room behind it.
POWERS = (1, 3, 9, 27, 81, 243)


def slipped(samples, copies):
    """The list in which each sample stands as often as its copies tell."""
    return [sample for sample, many in zip(samples, copies) for _ in range(many)]


class Slips:
    """The runs of a sender over a line that slips, for samples that were heard."""

    def __init__(self, sender, line, blocks, most, samples):
        self.bits, self.points = sizes(sender)
        if self.points > MOST_POINTS:
            raise ShapeError("slips")
        self.rooms = Rooms(sender, line)
        self.first = (0, first_room(line), 0, 0)
        self.run_blocks = blocks
        self.most = most
        self.samples = samples
        self.insides = {}
        self.ways = {}

    def marks(self, labels):
        """The marks of the stages: how many blocks are left as for Rooms, and the label of the row that is left out.

        Behind the tail 0 stands for the silence. Without such a row, and behind its labels, there is None.
        """
        lefts = self.rooms.marks(self.run_blocks) + [0]
        return list(zip(lefts, labels + [None] * (len(lefts) - len(labels))))

    def inside(self, room, left):
        """The steps of a run that does not slip, with the samples of a block or of the silence."""
        if (room, left) not in self.insides:
            if left == 0:
                steps = [(0, (0, ()), outward(self.rooms.line, room[1]))]
            else:
                steps = self.rooms.steps(room, left)
            self.insides[(room, left)] = [(label, after, tuple(clear)) for label, after, clear in steps]
        return self.insides[(room, left)]

    def ways_of(self, clear, used, least):
        """How samples can slip if so many of those that were heard were used ahead of them, and what it costs.

        Each way has the number that its copies write, how many heard samples it uses, how many slips it has, and its
        cost. With `least` there is only the cheapest way of those that use as many and slip as often, with the least
        number.
        """
        key = (clear, used, least)
        if key not in self.ways:
            found = [(0, (0, 0), 0)]
            for sample in clear:
                found = [way for ahead in found for way in self.longer_ways(ahead, sample, used)]
                if least:
                    found = thinned(found)
            self.ways[key] = found
        return self.ways[key]

    def longer_ways(self, ahead, sample, used):
        """A way with one more sample, for all copies of it that can be."""
        number, (taken, slips), spent = ahead
        ways = []
        for copies in range(3):
            last = used + taken + copies
            more = slips if copies == 1 else slips + 1
            if last <= len(self.samples) and more <= self.most:
                heard = self.samples[used + taken:last]
                lack = sum([size(minus(sample, point)) for point in heard if point is not None])
                ways.append((3 * number + copies, (taken + copies, more), spent + lack))
        return ways

    def steps_from(self, room, mark, least):
        """The steps from a room, ascending."""
        part, inner, used, slips = room
        left, own = mark
        steps = []
        for label, after, clear in self.inside(inner, left):
            behind = 1 if own is not None and label != own else part
            number = label * POWERS[len(clear)]
            for copies, (taken, more), spent in self.ways_of(clear, used, least):
                if slips + more <= self.most:
                    steps.append((number + copies, (behind, after, used + taken, slips + more), spent))
        return thinned(steps) if least else steps

    def trellis(self, row_labels, least):
        """The trellis of all rows, or of all rows but one if its labels are given; None without a room at some time.

        With `least` edges are left out beside which a cheaper one leads to the same room: then the rooms and the best
        path are the same, and the same potentials are right.
        """
        labels = [] if row_labels is None else row_labels
        stages, last = grown(self.first, self.marks(labels), lambda room, mark: self.steps_from(room, mark, least))
        if len(last) == 0:
            return None
        widths, layers = layers_through(stages, last)
        part = 0 if row_labels is None else 1
        ends = [at for at, room in enumerate(last) if room[0] == part and room[2] == len(self.samples)]
        return ("trellis", widths, layers, tuple(ends))

    def walked(self, path):
        """The labels of a run that does not slip, the copies of its samples, and these; None if there are no such ones.

        The path is a list of integers, one for each stage.
        """
        room = self.first[1]
        labels, copies, samples = [], [], []
        for (left, _), label in zip(self.marks([]), path):
            steps = self.inside(room, left)
            power = POWERS[len(steps[0][2])]
            found = [step for step in steps if step[0] == label // power]
            if len(found) == 0:
                return None
            plain, room, clear = found[0]
            labels.append(plain)
            copies.extend(digits_of(label, len(clear)))
            samples.extend(clear)
        return (labels, copies, samples)

    def way_of(self, thing):
        """The labels of a run that does not slip, the copies and the cost of a path, or None for any other thing."""
        if not isinstance(thing, list) or not all([is_integer(label) for label in thing]):
            return None
        told = self.walked(thing) if len(thing) == len(self.marks([])) else None
        if told is None:
            return None
        labels, copies, samples = told
        if sum(copies) != len(self.samples) or len([many for many in copies if many != 1]) > self.most:
            return None
        return (labels, copies, cost(self.samples, slipped(samples, copies)))

    def row_of(self, labels):
        """The row of the blocks of a path, by the labels of a run that does not slip."""
        return row_for(labels[:self.run_blocks], self.bits)


def digits_of(number, many):
    """The lowest digits to the base 3, the highest one first."""
    return [number // POWERS[place] % 3 for place in reversed(range(many))]


def slip_trellis(sender, line, blocks, most, samples, row=None):
    """The trellis of a slipped run, or that of all rows but one; None if at some time no room can be reached."""
    slips = Slips(sender, line, blocks, most, samples)
    return slips.trellis(None if row is None else labels_in(sender, row), False)


def hear_slipped(sender, line, blocks, most, samples):
    """The verdict on samples of a line that slips, and a paper that shows it; two times None without a path."""
    slips = Slips(sender, line, blocks, most, samples)
    trellis = slips.trellis(None, True)
    best = None if trellis is None else best_path(trellis)
    if best is None:
        return (None, None)
    path, spent = best
    labels, copies, _ = slips.walked(path)
    others = slips.trellis(labels[:blocks], True)
    table = potentials_of(others)
    least = least_end(others, table)
    if least == spent:
        other, _ = best_path(others)
        beside, _, _ = slips.walked(other)
        verdict = ("tie", slips.row_of(labels), slips.row_of(beside), spent)
        return (verdict, ("tie", path, other, potentials_of(trellis)))
    return (("row", slips.row_of(labels), spent, gap_of(least, spent), copies), ("one", path, table))


def check_slipped(sender, line, blocks, most, samples, paper):
    """The verdict that a thing of any kind shows if it is a paper that is taken, or None."""
    slips = Slips(sender, line, blocks, most, samples)
    if is_named(paper, "one", 3):
        return shown_row(slips, slips.way_of(paper[1]), paper[2])
    if is_named(paper, "tie", 4):
        return shown_rows(slips, slips.way_of(paper[1]), slips.way_of(paper[2]), paper[3])
    return None


def shown_row(slips, way, table):
    """The verdict that a paper of one path shows, or None."""
    if way is None:
        return None
    labels, copies, spent = way
    others = slips.trellis(labels[:slips.run_blocks], True)
    if not are_right(others, table):
        return None
    least = least_end(others, table)
    if least is not None and least <= spent:
        return None
    return ("row", slips.row_of(labels), spent, gap_of(least, spent), copies)


def shown_rows(slips, way, other, table):
    """The verdict that a paper of a tie shows, or None."""
    if way is None or other is None or way[2] != other[2]:
        return None
    row, beside = slips.row_of(way[0]), slips.row_of(other[0])
    trellis = slips.trellis(None, True)
    if row == beside or not are_right(trellis, table) or least_end(trellis, table) != way[2]:
        return None
    return ("tie", row, beside, way[2])
