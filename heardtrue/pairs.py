"""Pairs of rows that are sent side by side, and how far apart their samples are."""

from heardtrue.lines import reach, smeared
from heardtrue.points import minus, total
from heardtrue.senders import blocks_of
from heardtrue.smears import homes_of, no_lasts, outward
from heardtrue.trellises import grown, moments, thinned, trellis_through

# More than twice as great as any difference of the parts of two symbols.
BASE = 1048576


def differences(points, others):
    """The differences of points and as many other ones, in a tuple."""
    return tuple([minus(point, other) for point, other in zip(points, others)])


def code_of(points):
    """A number for points: two such numbers have the same difference exactly if the points have."""
    code = 0
    for x, y in points:
        code = (code * BASE + x) * BASE + y
    return code


def codes_of(tables, state):
    """The numbers for the points that all tables tell for the labels in a state."""
    rows = [table[3][state] for table in tables]
    return [code_of([point for points in parts for point in points]) for parts in zip(*rows)]


class Pairs:
    """The rooms of pairs of rows that are sent in parts: a list of pairs of a sender and a line.

    All senders have the same bits in a block, and go to the same states. Many pairs of labels are alike from a room on:
    the states behind them and the differences of their points are the same. So they are looked at by such classes.
    """

    def __init__(self, parts):
        tables = [blocks_of(sender) for sender, _ in parts]
        _, self.bits, self.nexts, _ = tables[0]
        self.lines = [line for _, line in parts]
        self.points = [table[3] for table in tables]
        self.codes = [codes_of(tables, state) for state in range(len(self.nexts))]
        self.homes = homes_of(parts[0][0])
        self.silent = tuple([no_lasts(line) for line in self.lines])
        self.smears = {}
        self.classes = {}
        self.leasts = {}

    def begin(self, state):
        """The room of two rows that have not parted, in a state with silence behind."""
        return (state, state, self.silent, False)

    def is_together(self, room):
        """True if both states are the same, and all last differences are (0, 0)."""
        return room[0] == room[1] and room[2] == self.silent

    def step(self, room, one, other):
        """The room behind a block with these labels, and the squared distance of its samples."""
        state, beside, lasts, parted = room
        behind, distance = self.onward(lasts, self.echoes(lasts), self.smear(state, beside, one, other))
        return ((self.nexts[state][one], self.nexts[beside][other], behind, parted or one != other), distance)

    def silence(self, room):
        """The squared distance of the samples behind the last block."""
        return sum([total(echo) for echo in self.echoes(room[2])])

    def echoes(self, lasts):
        """For each part what the last differences add to the next samples."""
        return [outward(line, last) for line, last in zip(self.lines, lasts)]

    def smear(self, state, beside, one, other):
        """For each part the differences of the points, their samples with silence ahead as far as last points would
        reach, and the size of the other samples.
        """
        code = self.codes[state][one] - self.codes[beside][other]
        if code not in self.smears:
            parts = []
            for line, points in zip(self.lines, self.points):
                # What comes out of a line for differences are the differences of what comes out of it.
                apart = differences(points[state][one], points[beside][other])
                samples = smeared(line[1], apart)[:len(apart)]
                parts.append((apart, samples[:reach(line)], total(samples[reach(line):])))
            self.smears[code] = parts
        return self.smears[code]

    def onward(self, lasts, echoes, parts):
        """The last differences behind a block, and the squared distance of its samples."""
        behind = []
        distance = 0
        for last, echo, (apart, heads, rest) in zip(lasts, echoes, parts):
            behind.append((last + apart)[len(apart):])
            distance += rest
            for (x, y), (a, b) in zip(heads, echo):
                distance += (x + a) * (x + a) + (y + b) * (y + b)
        return (tuple(behind), distance)

    def marked(self, state, beside, parted):
        """The labels of all pairs of blocks from two states, ascending, each with the mark of its class."""
        many = 1 << self.bits
        nexts, others = self.nexts[state], self.nexts[beside]
        codes, besides = self.codes[state], self.codes[beside]
        # As long as they have not parted, the less row is the first one.
        return [
            (one * many + other, (nexts[one], others[other], codes[one] - besides[other], parted or one != other))
            for one in range(many) for other in range(0 if parted else one, many)
        ]

    def classes_of(self, state, beside, parted):
        """A dict from the marks of the classes to the least labels, ascending, and what smear tells."""
        key = (state, beside, parted)
        if key not in self.classes:
            found = {}
            for label, mark in self.marked(state, beside, parted):
                if mark not in found:
                    one, other = self.sides(label)
                    found[mark] = (label, self.smear(state, beside, one, other))
            self.classes[key] = found
        return self.classes[key]

    def sides(self, label):
        """The labels of both rows in the label of a pair."""
        return divmod(label, 1 << self.bits)

    def class_steps(self, room):
        """A dict from the marks of the classes, by their least labels, to the steps with these and the distances."""
        state, beside, lasts, parted = room
        echoes = self.echoes(lasts)
        steps = {}
        for mark, (label, parts) in self.classes_of(state, beside, parted).items():
            behind, distance = self.onward(lasts, echoes, parts)
            steps[mark] = (label, (mark[0], mark[1], behind, mark[3]), distance)
        return steps

    def tail_step(self, room, left):
        """The step from a room if so many blocks of the tail are left."""
        home = self.homes[left]
        one, other = home[room[0]][0], home[room[1]][0]
        after, distance = self.step(room, one, other)
        return (one * (1 << self.bits) + other, after, distance)

    def steps_of(self, room, left):
        """All steps from a room, as grown asks for them, with squared distances."""
        if left is not None:
            return [self.tail_step(room, left)]
        told = self.class_steps(room)
        return [(label, told[mark][1], told[mark][2]) for label, mark in self.marked(room[0], room[1], room[3])]

    def least_steps(self, room, left):
        """The steps from a room by which the best path can go: the cheapest one to each room."""
        if left is not None:
            return [self.tail_step(room, left)]
        if room not in self.leasts:
            self.leasts[room] = thinned(list(self.class_steps(room).values()))
        return self.leasts[room]

    def through(self, blocks, steps_of):
        """The trellis of pairs with the steps that a function tells."""
        stages, rooms = grown(self.begin(0), moments(blocks, len(self.homes) - 1), steps_of)
        last = {room: [(0, None, self.silence(room))] if room[3] else [] for room in rooms}
        return trellis_through(stages + [last])

    def trellis(self, blocks):
        """The trellis of pairs."""
        return self.through(blocks, self.steps_of)

    def least_trellis(self, blocks):
        """The trellis of pairs without the edges beside which a cheaper one leads to the same room.

        It has the same rooms, the same best path, and the same potentials are right for it.
        """
        return self.through(blocks, self.least_steps)

    def home(self, room):
        """The squared distance of the tail and of the silence behind it."""
        spent = 0
        for left in reversed(range(1, len(self.homes))):
            _, room, distance = self.tail_step(room, left)
            spent += distance
        return spent + self.silence(room)


def least_behind(pairs, costs, most):
    """The least distances to come to the rooms behind a block, as far as they are at most a number."""
    behind = {}
    for room, spent in costs.items():
        for _, after, distance in pairs.least_steps(room, None):
            if spent + distance <= behind.get(after, most):
                behind[after] = spent + distance
    return behind


def settled(pairs, costs, blocks, most):
    """The least distances to come to the rooms behind so many blocks, as far as they are at most a number."""
    for _ in range(blocks):
        behind = least_behind(pairs, costs, most)
        # What does not change behind one block does not change behind more of them.
        if behind == costs:
            break
        costs = behind
    return costs


def least_home(pairs, costs, most):
    """The least distance of rows that have parted, with their tails, or None if it is greater than a number."""
    spent = min([spent + pairs.home(room) for room, spent in costs.items() if room[3]], default=None)
    return None if spent is None or spent > most else spent


def searched(within):
    """The least distance, by a function that tells it if it is at most a number, and otherwise None."""
    most = 0
    # Only what is near is looked at: with a small bound few rooms can be come to.
    while True:
        found = within(most)
        if found is not None:
            return found
        most += most // 8 + 1


def least_distance(pairs, blocks):
    """The distance of all rows of so many blocks, or None for no blocks."""
    if blocks == 0:
        return None
    return searched(lambda most: least_home(pairs, settled(pairs, {pairs.begin(0): 0}, blocks, most), most))
