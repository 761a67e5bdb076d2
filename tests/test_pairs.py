"""Point 7.2: the rooms, the steps, the silence and the trellis of pairs."""

import random
import unittest

from heardtrue.machines import shift_machine
from heardtrue.pairs import Pairs
from heardtrue.senders import check_sender
from heardtrue.symbols import levels
from heardtrue.trellises import is_trellis, two_best
from slow import HALF, LONE, SHIFT, SlowPairs, cases, cost_by_hand
from support import (
    any_line, any_pattern, any_points, any_symbols, block_bits, block_by_hand, fault, line_of, paths_through, senders,
    smeared_by_hand, stands_alone,
)

LINE = line_of((1, 0), (1, 0))


def any_parts(source, sender, many):
    """So many parts with the machine of a sender; the first one is of this sender."""
    _, machine, pattern, _ = sender
    parts = [(sender, any_line(source, source.randint(1, 4), 3))]
    while len(parts) < many:
        bits = source.randint(1, 2)
        marks = any_pattern(source, len(pattern), machine[2], bits)
        if marks is not None:
            other = ("sender", machine, marks, any_symbols(source, bits))
            if fault(check_sender, other) is None:
                parts.append((other, any_line(source, source.randint(1, 4), 3)))
    return parts


class Rooms(unittest.TestCase):
    def test_begin(self):
        self.assertEqual(Pairs([(SHIFT, line_of((1, 0)))]).begin(0), (0, 0, ((),), False))
        self.assertEqual(Pairs([(SHIFT, LINE)]).begin(3), (3, 3, (((0, 0),),), False))
        four = line_of((1, 0), (0, 0), (0, 0), (0, 0))
        self.assertEqual(Pairs([(SHIFT, four)]).begin(1), (1, 1, (((0, 0), (0, 0), (0, 0)),), False))
        self.assertEqual(Pairs([(SHIFT, LINE), (SHIFT, line_of((1, 0)))]).begin(2), (2, 2, (((0, 0),), ()), False))

    def test_together(self):
        pairs = Pairs([(SHIFT, LINE)])
        self.assertIs(pairs.is_together(pairs.begin(2)), True)
        self.assertIs(pairs.is_together((2, 2, (((0, 0),),), True)), True)
        self.assertIs(pairs.is_together((2, 1, (((0, 0),),), True)), False)
        self.assertIs(pairs.is_together((2, 2, (((0, 2),),), True)), False)
        self.assertIs(pairs.is_together((2, 2, (((-2, 0),),), True)), False)
        self.assertIs(Pairs([(SHIFT, line_of((1, 0)))]).is_together((0, 0, ((),), True)), True)
        three = Pairs([(SHIFT, line_of((1, 0), (0, 0), (1, 0)))])
        self.assertIs(three.is_together((0, 0, (((2, 0), (0, 0)),), True)), False)
        self.assertIs(three.is_together((0, 0, (((0, 0), (2, 0)),), True)), False)
        both = Pairs([(SHIFT, LINE), (SHIFT, LINE)])
        self.assertIs(both.is_together((1, 1, (((0, 0),), ((0, 0),)), True)), True)
        self.assertIs(both.is_together((1, 1, (((0, 0),), ((2, 0),)), True)), False)
        self.assertIs(both.is_together((1, 1, (((2, 0),), ((0, 0),)), True)), False)


class Steps(unittest.TestCase):
    def test_by_hand(self):
        pairs = Pairs([(SHIFT, line_of((1, 0), (10, 0)))])
        begin = pairs.begin(0)
        # The points of both blocks are alike, or -1 -1 and 1 1.
        self.assertEqual(pairs.step(begin, 1, 1), ((2, 2, (((0, 0),),), False), 0))
        self.assertEqual(pairs.step(begin, 0, 1), ((0, 2, (((-2, 0),),), True), 4 + 22 * 22))
        self.assertEqual(pairs.step(begin, 1, 0), ((2, 0, (((2, 0),),), True), 4 + 22 * 22))
        # Behind it 0 is -1 -1 from the state 0, and 1 -1 from the state 2.
        behind = (0, 2, (((-2, 0),),), True)
        self.assertEqual(pairs.step(behind, 0, 0), ((0, 1, (((0, 0),),), True), 22 * 22 + 20 * 20))
        self.assertEqual(pairs.silence(behind), 400)
        self.assertEqual(pairs.silence(begin), 0)

    def test_they_have_parted_for_ever(self):
        pairs = Pairs([(LONE, line_of((1, 0)))])
        room, distance = pairs.step(pairs.begin(0), 0, 1)
        self.assertEqual((room, distance), ((0, 0, ((),), True), 4))
        self.assertIs(pairs.is_together(room), True)
        self.assertEqual(pairs.step(room, 1, 1), ((0, 0, ((),), True), 0))
        self.assertEqual(pairs.step(pairs.begin(0), 1, 1), ((0, 0, ((),), False), 0))

    def test_silence_by_hand(self):
        pairs = Pairs([(SHIFT, line_of((1, 0), (10, 0), (100, 0)))])
        self.assertEqual(pairs.silence((0, 0, (((2, 0), (0, 4)),), True)), 200 * 200 + 40 * 40 + 400 * 400)
        self.assertEqual(Pairs([(SHIFT, line_of((1, 0)))]).silence((0, 1, ((),), True)), 0)

    def test_any_steps(self):
        source = random.Random(83)
        for sender in senders(84, 60, 3):
            parts = any_parts(source, sender, source.randint(1, 2))
            pairs = Pairs(parts)
            for _ in range(20):
                states = [source.randrange(len(sender[1][3])) for _ in range(2)]
                lasts = [any_points(source, len(line[1]) - 1, 5) for _, line in parts]
                room = (*states, tuple(map(tuple, lasts)), source.random() < 0.5)
                labels = [source.randrange(2 ** block_bits(sender)) for _ in range(2)]
                self.assertEqual(pairs.step(room, *labels), self.step_by_hand(parts, room, labels))
                self.assertEqual(pairs.silence(room), sum(
                    cost_by_hand(smeared_by_hand(line, last)[len(last):], [(0, 0)] * len(last))
                    for (_, line), last in zip(parts, lasts)
                ))

    def step_by_hand(self, parts, room, labels):
        distance, behind = 0, []
        for (sender, line), lasts in zip(parts, room[2]):
            told = [block_by_hand(sender, state, label) for state, label in zip(room, labels)]
            points = list(lasts) + [(p[0] - q[0], p[1] - q[1]) for p, q in zip(told[0][1], told[1][1])]
            samples = smeared_by_hand(line, points)[len(lasts):len(points)]
            distance += cost_by_hand(samples, [(0, 0)] * len(samples))
            behind.append(tuple(points[len(points) - len(lasts):]))
        return (told[0][0], told[1][0], tuple(behind), room[3] or labels[0] != labels[1]), distance


class Trellis(unittest.TestCase):
    def test_no_blocks(self):
        self.assertEqual(Pairs([(LONE, LINE)]).trellis(0), ("trellis", (1, 1), [[]], (0,)))
        self.assertEqual(Pairs([(HALF, LINE)]).trellis(0), ("trellis", (1, 1, 1), [[(0, 0, 0, 0)], []], (0,)))

    def test_one_block_by_hand(self):
        told = Pairs([(LONE, LINE)]).trellis(1)
        # The rooms are: parted with the difference -2, and together with 0.
        self.assertEqual(told, ("trellis", (1, 2, 1), [
            [(0, 1, 0, 0), (0, 0, 1, 4), (0, 1, 3, 0)],
            [(0, 0, 0, 4)],
        ], (0,)))

    def test_rooms_that_have_parted_stand_behind_those_that_have_not(self):
        told = Pairs([(LONE, line_of((1, 0)))]).trellis(2)
        parted = [(1, 1, 0, 0), (1, 1, 1, 4), (1, 1, 2, 4), (1, 1, 3, 0)]
        self.assertEqual(told, ("trellis", (1, 2, 2, 1), [
            [(0, 0, 0, 0), (0, 1, 1, 4), (0, 0, 3, 0)],
            [(0, 0, 0, 0), (0, 1, 1, 4), (0, 0, 3, 0)] + parted,
            [(1, 0, 0, 0)],
        ], (0,)))

    def test_whole(self):
        many, taps = 0, set()
        for sender, line, blocks, runs in cases(85, 60, 16):
            slow = SlowPairs([(sender, line)], blocks)
            told = Pairs([(sender, line)]).trellis(blocks)
            self.assertEqual(told, slow.trellis())
            self.assertIs(is_trellis(told), True)
            # Each path is a pair of two different rows, and no other one.
            bits = block_bits(sender)
            found = []
            for labels, distance in paths_through(told):
                sides = [[label >> bits for label in labels[:-1]], [label % 2 ** bits for label in labels[:-1]]]
                found.append((*sides, distance))
            wanted = [
                (one[0], other[0], cost_by_hand(one[3], other[3]))
                for at, one in enumerate(runs.runs) for other in runs.runs[at + 1:]
            ]
            self.assertEqual(sorted(found), wanted)
            many += len(wanted) > 0
            taps.add(len(line[1]))
        self.assertTrue(many > 60 and taps == {1, 2, 3, 4})

    def test_of_several_parts(self):
        source = random.Random(86)
        for sender in senders(87, 15, 2, 3):
            parts = any_parts(source, sender, source.randint(2, 3))
            for blocks in range(3):
                self.assertEqual(Pairs(parts).trellis(blocks), SlowPairs(parts, blocks).trellis())

    def test_the_least_pair_of_a_known_code(self):
        # The rows 0 0 0 and 0 0 1 of (7, 5) differ in 5 bits, which are 2 apart.
        pairs = Pairs([(SHIFT, line_of((1, 0)))])
        self.assertEqual(two_best(pairs.trellis(3))[0], ([0, 0, 1, 0, 0, 0], 20))


class Kept(unittest.TestCase):
    def test_arguments_stay_and_results_are_new(self):
        for parts in ([(HALF, LINE)], [(LONE, line_of((1, 0)))], [(SHIFT, LINE), (SHIFT, line_of((0, 1)))]):
            stands_alone(self, lambda told: Pairs(told).trellis(2), parts)
            pairs = Pairs(parts)
            room = pairs.step(pairs.begin(0), 0, 1)[0]
            stands_alone(self, pairs.begin, 0)
            stands_alone(self, pairs.is_together, room)
            stands_alone(self, pairs.step, room, 1, 0)
            stands_alone(self, pairs.silence, room)
            stands_alone(self, pairs.trellis, 0)
            stands_alone(self, pairs.trellis, 2)

    def test_the_list_of_parts_is_not_kept(self):
        parts = [(HALF, LINE)]
        pairs = Pairs(parts)
        told = pairs.trellis(1), pairs.begin(1)
        parts.append((HALF, line_of((1, 0))))
        parts[0] = None
        self.assertEqual((pairs.trellis(1), pairs.begin(1)), told)


if __name__ == "__main__":
    unittest.main()
