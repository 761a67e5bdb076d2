"""The rooms of a run while it is sent over a line, and its trellis."""

from heardtrue.errors import ShapeError
from heardtrue.lines import cost, reach, smeared
from heardtrue.senders import block, blocks_of, sizes, tail_blocks, ways_home
from heardtrue.trellises import grown, moments, trellis_through


def first_room(line):
    """The room in which a run begins."""
    return (0, no_lasts(line))


def no_lasts(line):
    """The last points of silence."""
    return ((0, 0),) * reach(line)


def onward(line, lasts, points):
    """The last points behind some more points, and the samples of these."""
    reached = lasts + points
    samples = smeared(line[1], reached)[len(lasts):len(reached)]
    return (reached[len(points):], samples)


def outward(line, lasts):
    """The samples behind the last points."""
    return smeared(line[1], lasts)[len(lasts):]


def step(sender, line, room, label):
    """The room behind a block, and the samples of the block."""
    state, points = block(sender, room[0], label)
    lasts, samples = onward(line, room[1], points)
    return ((state, lasts), samples)


def silence(sender, line, room):
    """The samples behind the last point."""
    return outward(line, room[1])


def homes_of(sender):
    """For each number of blocks that can be left of the tail, from 0 on, a dict from states to the least labels."""
    return [ways_home(sender, left) for left in range(tail_blocks(sender) + 1)]


class Rooms:
    """The rooms of the runs of a sender over a line, and the steps from them."""

    def __init__(self, sender, line):
        _, self.bits, self.nexts, self.points = blocks_of(sender)
        self.line = line
        self.homes = homes_of(sender)

    def steps(self, room, left):
        """The steps from a room, with the samples of a block; one alone if so many blocks of the tail are left."""
        state, lasts = room
        steps = []
        for label in list(range(1 << self.bits)) if left is None else self.homes[left][state][:1]:
            behind, samples = onward(self.line, lasts, self.points[state][label])
            steps.append((label, (self.nexts[state][label], behind), samples))
        return steps

    def marks(self, blocks):
        """The marks of the stages of so many blocks and of the tail."""
        return moments(blocks, len(self.homes) - 1)


def stages_of(sender, line, blocks):
    """The stages of a run, whose steps tell samples, and the rooms behind them."""
    rooms = Rooms(sender, line)
    return grown(first_room(line), rooms.marks(blocks), rooms.steps)


def room_rows(sender, line, blocks):
    """The ascending lists of the rooms of all times of a run, the silence not counted."""
    stages, rooms = stages_of(sender, line, blocks)
    return [list(stage) for stage in stages] + [rooms]


def run_size(sender, line, blocks):
    """The number of the samples of a run."""
    _, points = sizes(sender)
    return (blocks + tail_blocks(sender)) * points + reach(line)


def trellis_of(sender, line, blocks, samples):
    """The trellis of a run for samples."""
    if len(samples) != run_size(sender, line, blocks):
        raise ShapeError("samples")
    stages, rooms = stages_of(sender, line, blocks)
    windows = windows_of(sender, samples, len(stages))
    return paid_trellis(
        stages, rooms, lambda at, clear: cost(windows[at], clear), lambda room: outward(line, room[1]))


def windows_of(sender, samples, blocks):
    """The samples of so many blocks, and those of the silence."""
    _, many = sizes(sender)
    cut = blocks * many
    return [samples[at:at + many] for at in range(0, cut, many)] + [samples[cut:]]


def paid_trellis(stages, rooms, pay, silent):
    """The trellis of stages whose steps tell samples, with the rooms behind them.

    One function tells what the samples of a step cost at a time, another one the samples of the silence of a room, or
    None if no run ends there.
    """
    paid = [
        {room: [(label, after, pay(at, clear)) for label, after, clear in steps] for room, steps in stage.items()}
        for at, stage in enumerate(stages)
    ]
    last = {room: silent(room) for room in rooms}
    many = len(stages)
    paid.append({room: [] if clear is None else [(0, None, pay(many, clear))] for room, clear in last.items()})
    return trellis_through(paid)
