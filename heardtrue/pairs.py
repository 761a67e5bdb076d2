"""Pairs of rows that are sent side by side, and how far apart their samples are."""

from heardtrue.points import minus, total
from heardtrue.senders import blocks_of
from heardtrue.smears import homes_of, no_lasts, onward, outward
from heardtrue.trellises import grown, trellis_through


def differences(points, others):
    """The differences of points and as many other ones, in a tuple."""
    return tuple([minus(point, other) for point, other in zip(points, others)])


class Pairs:
    """The rooms of pairs of rows that are sent in parts: a list of pairs of a sender and a line.

    All senders have the same bits in a block, and go to the same states.
    """

    def __init__(self, parts):
        tables = [blocks_of(sender) for sender, _ in parts]
        _, self.bits, self.nexts, _ = tables[0]
        self.lines = [line for _, line in parts]
        self.points = [table[3] for table in tables]
        self.homes = homes_of(parts[0][0])

    def begin(self, state):
        """The room of two rows that have not parted, in a state with silence behind."""
        return (state, state, tuple([no_lasts(line) for line in self.lines]), False)

    def is_together(self, room):
        """True if both states are the same, and all last differences are (0, 0)."""
        return room[0] == room[1] and room[2] == self.begin(room[0])[2]

    def step(self, room, one, other):
        """The room behind a block with these labels, and the squared distance of its samples."""
        state, beside, lasts, parted = room
        behind = []
        distance = 0
        for line, points, last in zip(self.lines, self.points, lasts):
            # What comes out of a line for differences are the differences of what comes out of it.
            apart = differences(points[state][one], points[beside][other])
            following, samples = onward(line, last, apart)
            behind.append(following)
            distance += total(samples)
        after = (self.nexts[state][one], self.nexts[beside][other], tuple(behind), parted or one != other)
        return (after, distance)

    def silence(self, room):
        """The squared distance of the samples behind the last block."""
        return sum([total(outward(line, last)) for line, last in zip(self.lines, room[2])])

    def label_pairs(self, room, left):
        """The pairs of labels that both rows can have next, ascending; one if so many blocks of the tail are left."""
        if left is not None:
            home = self.homes[left]
            return [(home[room[0]][0], home[room[1]][0])]
        many = 1 << self.bits
        # As long as they have not parted, the less row is the first one.
        return [(one, other) for one in range(many) for other in range(0 if room[3] else one, many)]

    def steps_of(self, room, left):
        """The steps from a room, as grown asks for them, with squared distances."""
        steps = []
        for one, other in self.label_pairs(room, left):
            after, distance = self.step(room, one, other)
            steps.append(((one << self.bits) + other, after, distance))
        return steps

    def trellis(self, blocks):
        """The trellis of pairs."""
        stages, rooms = grown(self.begin(0), blocks, len(self.homes) - 1, self.steps_of)
        last = {room: [(0, None, self.silence(room))] if room[3] else [] for room in rooms}
        return trellis_through(stages + [last])
