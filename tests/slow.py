"""Runs and pairs of runs by the words of the document: all rows, one by one."""

import random

from heardtrue.lines import reach
from heardtrue.machines import shift_machine
from heardtrue.symbols import levels
from support import (
    any_line, any_points, block_bits, block_by_hand, label_lists, row_in, senders, smeared_by_hand, tail_by_hand,
    ways_by_hand,
)

ONE_STATE = ("machine", 1, 1, ((0, 0),), (((0,), (1,)),))
LONE = ("sender", ONE_STATE, ((1,),), levels(1))
SHIFT = ("sender", shift_machine((7, 5)), ((1, 1),), levels(1))
HALF = ("sender", shift_machine((7, 5)), ((1, 1), (0, 1)), levels(1))


def size_of(point, other):
    return (point[0] - other[0]) ** 2 + (point[1] - other[1]) ** 2


def cost_by_hand(samples, clear):
    """The cost of samples; lost ones don't count."""
    assert len(samples) == len(clear)
    return sum(size_of(sample, point) for sample, point in zip(samples, clear) if sample is not None)


class SlowRuns:
    """All runs of so many blocks of a sender over a line."""

    def __init__(self, sender, line, blocks):
        self.sender, self.line, self.blocks = sender, line, blocks
        self.tail, ways = tail_by_hand(sender)
        self.many = len(self.block_points(0, 0))
        self.homes = [ways_by_hand(sender, left) for left in range(self.tail)] + [ways]
        self.runs = [self.run_of(labels) for labels in label_lists(sender, blocks)]

    def block_points(self, state, label):
        return block_by_hand(self.sender, state, label)[1]

    def run_of(self, labels):
        """The labels with those of the tail, the states, the points, and the samples."""
        states = [0]
        for label in labels:
            states.append(block_by_hand(self.sender, states[-1], label)[0])
        labels = labels + self.homes[self.tail][states[-1]]
        for label in labels[self.blocks:]:
            states.append(block_by_hand(self.sender, states[-1], label)[0])
        assert states[-1] == 0
        points = [point for state, label in zip(states, labels) for point in self.block_points(state, label)]
        samples = smeared_by_hand(self.line, points) if points else [(0, 0)] * reach(self.line)
        return labels, states, points, samples

    def rows(self):
        return [row_in(self.sender, labels[:self.blocks]) for labels, _, _, _ in self.runs]

    def size(self):
        return len(self.runs[0][3])

    def window(self, samples, time):
        """The samples of a block; behind the last one those of the silence."""
        return samples[time * self.many:][:self.many if time < self.times() else None]

    def times(self):
        return self.blocks + self.tail

    def lasts(self, points, time):
        """As many of the last points as the line reaches back."""
        back = reach(self.line)
        ahead = [(0, 0)] * back + points[:time * self.many]
        return tuple(ahead[len(ahead) - back:])

    def room_rows(self):
        return [
            sorted({(states[time], self.lasts(points, time)) for _, states, points, _ in self.runs})
            for time in range(self.times() + 1)
        ]

    def trellis(self, samples):
        rows = self.room_rows()
        layers = []
        for time in range(self.times() + 1):
            edges = set()
            for labels, states, points, clear in self.runs:
                here = rows[time].index((states[time], self.lasts(points, time)))
                there, label = 0, 0
                if time < self.times():
                    there = rows[time + 1].index((states[time + 1], self.lasts(points, time + 1)))
                    label = labels[time]
                cost = cost_by_hand(self.window(samples, time), self.window(clear, time))
                edges.add((here, there, label, cost))
            layers.append(sorted(edges, key=lambda edge: (edge[0], edge[2])))
        return ("trellis", tuple(map(len, rows)) + (1,), layers, (0,))

    def heard(self, samples):
        """The verdict of point 6.3."""
        ranked = sorted((cost_by_hand(samples, run[3]), row) for run, row in zip(self.runs, self.rows()))
        if len(ranked) == 1:
            return ("row", ranked[0][1], ranked[0][0], None)
        if ranked[0][0] < ranked[1][0]:
            return ("row", ranked[0][1], ranked[0][0], ranked[1][0] - ranked[0][0])
        return ("tie", ranked[0][1], ranked[1][1], ranked[0][0])

    def distances(self):
        """All pairs of different rows with their squared distances, ascending."""
        told = list(zip(self.rows(), self.runs))
        return [
            (cost_by_hand(run[3], against[3]), row, other)
            for at, (row, run) in enumerate(told) for other, against in told[at + 1:]
        ]


class SlowPairs:
    """All pairs of runs of so many blocks that are sent in parts."""

    def __init__(self, parts, blocks):
        self.parts = [SlowRuns(sender, line, blocks) for sender, line in parts]
        self.bits = len(parts[0][0][2]) * parts[0][0][1][1]
        self.blocks = blocks
        self.times = self.parts[0].times()

    def room(self, one, other, time):
        lasts = []
        for part in self.parts:
            sides = [part.lasts(part.runs[at][2], time) for at in (one, other)]
            lasts.append(tuple((p[0] - q[0], p[1] - q[1]) for p, q in zip(*sides)))
        _, states, _, _ = self.parts[0].runs[one]
        _, others, _, _ = self.parts[0].runs[other]
        parted = self.labels(one)[:time] != self.labels(other)[:time]
        return (states[time], others[time], tuple(lasts), parted)

    def labels(self, at):
        return self.parts[0].runs[at][0]

    def distance(self, one, other, time):
        return sum(
            cost_by_hand(part.window(part.runs[one][3], time), part.window(part.runs[other][3], time))
            for part in self.parts
        )

    def pairs(self):
        many = len(self.parts[0].runs)
        return [(one, other) for one in range(many) for other in range(one, many)]

    def room_rows(self):
        return [sorted({self.room(one, other, time) for one, other in self.pairs()}) for time in range(self.times + 1)]

    def trellis(self):
        rows = self.room_rows()
        layers = []
        for time in range(self.times + 1):
            edges = set()
            for one, other in self.pairs():
                here = rows[time].index(self.room(one, other, time))
                cost = self.distance(one, other, time)
                if time < self.times:
                    there = rows[time + 1].index(self.room(one, other, time + 1))
                    edges.add((here, there, self.labels(one)[time] * 2 ** self.bits + self.labels(other)[time], cost))
                elif one != other:
                    edges.add((here, 0, 0, cost))
            layers.append(sorted(edges, key=lambda edge: (edge[0], edge[2])))
        return ("trellis", tuple(map(len, rows)) + (1,), layers, (0,))


def cases(seed, many, most=64):
    """Senders, lines of 1 to 4 taps, numbers of blocks and their slow runs."""
    source = random.Random(seed)
    found = []
    for at, sender in enumerate(senders(seed, many, 3, 4)):
        line = any_line(source, at % 4 + 1, 3)
        for blocks in range(4):
            if 2 ** (block_bits(sender) * blocks) <= most:
                slow = SlowRuns(sender, line, blocks)
                if slow.tail * block_bits(sender) <= 8:
                    found.append((sender, line, blocks, slow))
    return found


def any_samples(source, many):
    """Samples of which some are lost."""
    return [None if source.random() < 0.2 else point for point in any_points(source, many, 9)]


def labels_side_by_side(sender, labels, others):
    """The labels of a pair of rows, block by block."""
    return [one * 2 ** block_bits(sender) + other for one, other in zip(labels, others)]


class SlowWays:
    """Ways of pairs of rows over a line, step by step."""

    def __init__(self, sender, line):
        self.sender, self.line = sender, line
        self.many = 2 ** block_bits(sender)
        self.silent = ((0, 0),) * reach(line)
        self.known = {}

    def begin(self, state):
        return (state, state, (self.silent,), False)

    def together(self, room):
        return room[0] == room[1] and room[2] == (self.silent,)

    def step(self, room, one, other):
        state, beside, (lasts,), parted = room
        after, points = block_by_hand(self.sender, state, one)
        behind, others = block_by_hand(self.sender, beside, other)
        apart = list(lasts) + [(p[0] - q[0], p[1] - q[1]) for p, q in zip(points, others)]
        samples = smeared_by_hand(self.line, apart)[len(lasts):len(apart)]
        last = tuple(apart[len(apart) - len(lasts):])
        return (after, behind, (last,), parted or one != other), cost_by_hand(samples, [(0, 0)] * len(samples))

    def steps(self, room):
        """All labels of pairs from a room, ascending, with the rooms behind and the distances."""
        if room not in self.known:
            self.known[room] = [
                (one * self.many + other, *self.step(room, one, other))
                for one in range(self.many) for other in range(0 if room[3] else one, self.many)
            ]
        return self.known[room]

    def starts(self):
        found = {0}
        while True:
            more = found | {block_by_hand(self.sender, state, label)[0] for state in found for label in range(self.many)}
            if more == found:
                return sorted(found)
            found = more

    def partings(self):
        return [(after, spent) for state in self.starts() for _, after, spent in self.steps(self.begin(state)) if after[3]]

    def free(self):
        """The free distance, and the least distances of all rooms that are not together, by relaxing them again and again."""
        table = {}
        ends = []

        def relax(steps):
            changed = False
            for after, spent in steps:
                if self.together(after):
                    ends.append(spent)
                elif spent < table.get(after, spent + 1):
                    table[after] = spent
                    changed = True
            return changed

        relax(self.partings())
        while any([relax([(after, table[room] + cost) for _, after, cost in self.steps(room)]) for room in list(table)]):
            pass
        return min(ends), table

    def bears(self, free, told):
        """Point 8.2, by its words, for the distance of the rows and a dict of a table."""
        steps, seen = list(self.partings()), set()
        while steps:
            after, spent = steps.pop()
            if self.together(after):
                if spent < free:
                    return False
            elif after not in told or told[after] > spent:
                return False
            elif after not in seen:
                seen.add(after)
                steps += [(room, told[after] + cost) for _, room, cost in self.steps(after)]
        return True

    def found(self, begin, allowed):
        """A dict from rooms to their shortest and then least ways, in their order; a way is a list of labels.

        `allowed` tells for a room, and the room and the distance behind a step, if the step may be gone.
        """
        ways, last = {begin: []}, {begin: []}
        while last:
            longer = sorted(
                (way + [label], after) for room, way in last.items() for label, after, spent in self.steps(room)
                if allowed(room, after, spent)
            )
            last = {}
            for way, after in longer:
                if after not in ways and after not in last:
                    last[after] = way
            ways.update(last)
        return ways

    def ring(self):
        """The ways of point 8.3, or None."""
        found = self.found(self.begin(0), lambda room, after, spent: not (room[3] and self.together(room)))
        for room, way in found.items():
            if room[3] and not self.together(room):
                back = self.found(room, lambda at, after, spent: spent == 0 and not self.together(after))
                round_ = sorted(
                    (len(there), there + [label]) for at, there in back.items()
                    for label, after, spent in self.steps(at) if after == room and spent == 0
                )
                if round_:
                    return way, round_[0][1]
        return None

    def most_parted(self, cost):
        """All ways of parted rows, as deep as they go."""
        known = {}

        def longest(room, left):
            if (room, left) not in known:
                known[(room, left)] = max(
                    [0] + [1 + longest(after, left - spent) for _, after, spent in self.steps(room)
                           if spent <= left and not self.together(after)]
                )
            return known[(room, left)]

        return max([0] + [
            1 + longest(after, cost - spent) for after, spent in self.partings()
            if spent <= cost and not self.together(after)
        ])
