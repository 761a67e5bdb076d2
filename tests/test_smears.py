"""Points 6.1 and 6.2: the rooms of a run, and its trellis."""

import random
import unittest

from heardtrue.machines import shift_machine
from heardtrue.smears import first_room, room_rows, run_size, silence, step, trellis_of
from heardtrue.symbols import levels, square
from heardtrue.trellises import is_trellis
from slow import HALF, LONE, SHIFT, any_samples, cases, cost_by_hand
from support import (
    any_line, any_points, block_bits, block_by_hand, fault, line_of, paths_through, senders, smeared_by_hand,
    stands_alone,
)

class Rooms(unittest.TestCase):
    def test_the_first_one(self):
        self.assertEqual(first_room(line_of((1, 0))), (0, ()))
        self.assertEqual(first_room(line_of((1, 0), (0, 0))), (0, ((0, 0),)))
        self.assertEqual(first_room(line_of((1, 0), (2, 0), (3, 0), (4, 0))), (0, ((0, 0), (0, 0), (0, 0))))

    def test_steps_by_hand(self):
        line = line_of((1, 0), (10, 0), (100, 0))
        # The block of the label 1 from the state 0 has the points 1 and 1, that of 0 from the state 2 then 1 and -1.
        self.assertEqual(step(SHIFT, line, (0, ((0, 0), (0, 0))), 1), ((2, ((1, 0), (1, 0))), [(1, 0), (11, 0)]))
        self.assertEqual(step(SHIFT, line, (2, ((1, 0), (1, 0))), 0), ((1, ((1, 0), (-1, 0))), [(111, 0), (109, 0)]))
        self.assertEqual(step(SHIFT, line, (0, ((5, 0), (0, 7))), 0), ((0, ((-1, 0), (-1, 0))), [(499, 70), (-11, 700)]))

    def test_points_that_are_older_than_the_block_stay(self):
        line = line_of((1, 0), (0, 1), (0, 0), (2, 0))
        room = (0, ((1, 0), (2, 0), (3, 0)))
        self.assertEqual(step(LONE, line, room, 1), ((0, ((2, 0), (3, 0), (1, 0))), [(3, 3)]))

    def test_silence_by_hand(self):
        line = line_of((1, 0), (10, 0), (100, 0))
        self.assertEqual(silence(SHIFT, line, (0, ((1, 0), (0, 2)))), [(100, 20), (0, 200)])
        self.assertEqual(silence(SHIFT, line, (3, ((0, 0), (0, 0)))), [(0, 0), (0, 0)])
        self.assertEqual(silence(SHIFT, line_of((7, 7)), (0, ())), [])

    def test_any_steps(self):
        source = random.Random(63)
        for at, sender in enumerate(senders(64, 40)):
            line = any_line(source, at % 4 + 1, 9)
            back = len(line[1]) - 1
            lasts = tuple(any_points(source, back, 9))
            for state in range(len(sender[1][3])):
                self.assertEqual(silence(sender, line, (state, lasts)), smeared_by_hand(line, list(lasts))[back:])
                for label in range(2 ** block_bits(sender)):
                    after, points = block_by_hand(sender, state, label)
                    reached = list(lasts) + points
                    samples = smeared_by_hand(line, reached)[back:len(reached)]
                    room = (after, tuple(reached[len(reached) - back:]))
                    self.assertEqual(step(sender, line, (state, lasts), label), (room, samples))

    def test_of_all_times(self):
        self.assertEqual(room_rows(LONE, line_of((1, 0)), 0), [[(0, ())]])
        self.assertEqual(room_rows(LONE, line_of((1, 0)), 2), [[(0, ())]] * 3)
        one = [(0, ((-1, 0),)), (0, ((1, 0),))]
        self.assertEqual(room_rows(LONE, line_of((1, 0), (1, 0)), 2), [[(0, ((0, 0),))], one, one])
        self.assertEqual(room_rows(SHIFT, line_of((1, 0)), 1), [[(0, ())], [(0, ()), (2, ())], [(0, ()), (1, ())], [(0, ())]])

    def test_of_all_times_by_a_slow_search(self):
        for sender, line, blocks, slow in cases(65, 30):
            self.assertEqual(room_rows(sender, line, blocks), slow.room_rows())


class Sizes(unittest.TestCase):
    def test_as_many_as_points_and_reach(self):
        self.assertEqual(run_size(LONE, line_of((1, 0)), 0), 0)
        self.assertEqual(run_size(LONE, line_of((1, 0), (0, 0), (0, 0)), 0), 2)
        self.assertEqual(run_size(LONE, line_of((1, 0), (1, 0)), 3), 4)
        self.assertEqual(run_size(SHIFT, line_of((1, 0)), 0), 4)
        self.assertEqual(run_size(SHIFT, line_of((1, 0), (1, 0)), 2), 9)
        self.assertEqual(run_size(HALF, line_of((1, 0), (1, 0)), 2), 10)
        self.assertEqual(run_size(("sender", shift_machine((7, 5)), ((1, 1), (1, 1)), square(4)), line_of((1, 0)), 50), 51)
        for sender, line, blocks, slow in cases(66, 20):
            self.assertEqual(run_size(sender, line, blocks), slow.size())


class Trellis(unittest.TestCase):
    def test_no_block_at_all(self):
        self.assertEqual(trellis_of(LONE, line_of((1, 0)), 0, []), ("trellis", (1, 1), [[(0, 0, 0, 0)]], (0,)))
        line = line_of((1, 0), (1, 0), (1, 0))
        self.assertEqual(trellis_of(LONE, line, 0, [(3, 0), None]), ("trellis", (1, 1), [[(0, 0, 0, 9)]], (0,)))

    def test_a_tail_alone(self):
        told = trellis_of(HALF, line_of((1, 0)), 0, [(0, 0), None, (1, 0)])
        self.assertEqual(told, ("trellis", (1, 1, 1), [[(0, 0, 0, 5)], [(0, 0, 0, 0)]], (0,)))

    def test_one_block_by_hand(self):
        samples = [(1, 0), (0, 0), (2, 1), None, (0, 0), (0, 0), (5, 0)]
        told = trellis_of(SHIFT, line_of((1, 0), (1, 0)), 1, samples)
        self.assertEqual(told, ("trellis", (1, 2, 2, 2, 1), [
            # The points are -1 -1 or 1 1; then -1 -1, or 1 -1 in the state 2; then -1 -1, or 1 1 in the state 1.
            [(0, 0, 0, 4 + 4), (0, 1, 1, 0 + 4)],
            [(0, 0, 0, 16 + 1), (1, 1, 0, 0 + 1)],
            [(0, 0, 0, 4 + 4), (1, 1, 0, 0 + 4)],
            [(0, 0, 0, 36), (1, 0, 0, 16)],
        ], (0,)))

    def test_whole(self):
        source = random.Random(67)
        tails, taps, many = set(), set(), 0
        for sender, line, blocks, slow in cases(68, 60):
            samples = any_samples(source, slow.size())
            told = trellis_of(sender, line, blocks, samples)
            self.assertEqual(told, slow.trellis(samples))
            self.assertIs(is_trellis(told), True)
            paths = [(run[0] + [0], cost_by_hand(samples, run[3])) for run in slow.runs]
            self.assertEqual(paths_through(told), paths)
            tails.add(slow.tail)
            taps.add(len(line[1]))
            many += 1
        self.assertTrue({0, 1, 2, 3} <= tails and taps == {1, 2, 3, 4} and many > 100)

    def test_samples(self):
        for line in (line_of((1, 0)), line_of((1, 0), (1, 0))):
            for blocks in range(3):
                right = run_size(HALF, line, blocks)
                self.assertIsNone(fault(trellis_of, HALF, line, blocks, [None] * right))
                for many in range(right + 8):
                    name = None if many == right else "samples"
                    self.assertEqual(fault(trellis_of, HALF, line, blocks, [(0, 0)] * many), name)


class Kept(unittest.TestCase):
    def test_arguments_stay_and_results_are_new(self):
        for sender, line, blocks, slow in cases(69, 12, 8):
            samples = [None] + [(1, 2)] * (slow.size() - 1) if slow.size() else []
            room = first_room(line)
            stands_alone(self, first_room, line)
            stands_alone(self, step, sender, line, room, 1)
            stands_alone(self, silence, sender, line, room)
            stands_alone(self, room_rows, sender, line, blocks)
            stands_alone(self, run_size, sender, line, blocks)
            stands_alone(self, trellis_of, sender, line, blocks, samples)


if __name__ == "__main__":
    unittest.main()
