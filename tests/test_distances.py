"""Points 7.1 to 7.4 and 1.3: the distance of runs, its papers, and the samples half-way."""

import random
import unittest

from heardtrue.distances import (
    check_distance, distance, distance_paper, halfway, nearest_pair, pair_trellis,
)
from heardtrue.lines import spoiled
from heardtrue.machines import shift_machine
from heardtrue.pairs import Pairs
from heardtrue.potentials import are_right, least_end, potentials_of
from heardtrue.runs import hear_run, run_samples
from heardtrue.senders import check_sender
from heardtrue.symbols import levels, square
from heardtrue.trellises import best_path, check_trellis
from slow import HALF, LONE, SHIFT, SlowPairs, cases, cost_by_hand, labels_side_by_side
from support import any_machine, any_points, block_bits, fault, line_of, stands_alone

LINE = line_of((1, 0), (1, 0))
ONE = line_of((1, 0))
ANY = [None, True, False, 0, 1, "", "pair", [], (), {}, [0], ("pair",), ("pair", [0], [1]), 1.0, b"pair"]


def slow_nearest(sender, slow):
    """The least distance, and of several pairs the one with the least labels of pairs."""
    ranked = []
    for at, one in enumerate(slow.runs):
        for other in slow.runs[at + 1:]:
            ranked.append((cost_by_hand(one[3], other[3]), labels_side_by_side(sender, one[0], other[0]), at))
    if not ranked:
        return None
    least, labels, _ = min(ranked)
    rows = {tuple(labels_side_by_side(sender, one[0], other[0])): (row, beside)
            for one, row in zip(slow.runs, slow.rows()) for other, beside in zip(slow.runs, slow.rows())}
    return (least, *rows[tuple(labels)])


class Distances(unittest.TestCase):
    def test_no_blocks(self):
        for sender in (LONE, SHIFT, HALF):
            self.assertIsNone(distance(sender, LINE, 0))
            self.assertIsNone(nearest_pair(sender, LINE, 0))
            self.assertIsNone(distance_paper(sender, LINE, 0))

    def test_by_hand(self):
        self.assertEqual(nearest_pair(LONE, LINE, 1), (8, [0], [1]))
        self.assertEqual(nearest_pair(LONE, LINE, 2), (8, [0, 0], [0, 1]))
        self.assertEqual(nearest_pair(LONE, line_of((3, 0)), 2), (36, [0, 0], [0, 1]))
        self.assertEqual(nearest_pair(SHIFT, ONE, 1), (20, [0], [1]))
        self.assertEqual(distance(SHIFT, ONE, 9), 20)
        # The last bit of a longer row has a whole tail behind it: so one block is as near as many.
        self.assertEqual(distance(HALF, ONE, 1), distance(HALF, ONE, 4))

    def test_by_a_slow_search(self):
        blocks_seen, taps = set(), set()
        for sender, line, blocks, slow in cases(110, 60, 32):
            wanted = slow_nearest(sender, slow)
            self.assertEqual(nearest_pair(sender, line, blocks), wanted)
            self.assertEqual(distance(sender, line, blocks), None if wanted is None else wanted[0])
            blocks_seen.add(blocks)
            taps.add(len(line[1]))
        self.assertEqual((blocks_seen, taps), ({0, 1, 2, 3}, {1, 2, 3, 4}))

    def test_rows_that_become_the_same(self):
        deaf = ("sender", ("machine", 1, 1, ((0, 0),), (((0,), (0,)),)), ((1,),), levels(1))
        self.assertEqual(nearest_pair(deaf, LINE, 2), (0, [0, 0], [0, 1]))

    def test_large_senders_and_many_blocks(self):
        # The code with the polynomials 23 and 25 has the free distance 7, in bits that are 2 apart.
        sixteen = ("sender", shift_machine((19, 29)), ((1, 1),), levels(1))
        self.assertEqual(distance(sixteen, ONE, 14), 28)
        four = line_of((3, 0), (1, 1), (0, 1), (1, 0))
        source = random.Random(111)
        wide = ("sender", any_machine(source, 2, 4, 2), ((1, 1, 1, 1),) * 2, square(4))
        self.assertIsNone(fault(check_sender, wide))
        long = ("sender", shift_machine((19, 29)), ((1, 1), (1, 0), (0, 1), (1, 1)), levels(2))
        for sender, line, blocks in ((sixteen, four, 14), (wide, LINE, 3), (long, LINE, 4)):
            told = nearest_pair(sender, line, blocks)
            self.assertLess(told[1], told[2])
            sides = run_samples(sender, line, told[1]), run_samples(sender, line, told[2])
            self.assertEqual(cost_by_hand(*sides), told[0])
            self.assertEqual(check_distance(sender, line, blocks, distance_paper(sender, line, blocks)), told)


class Trellises(unittest.TestCase):
    def test_by_hand(self):
        self.assertEqual(pair_trellis(LONE, LINE, 1), ("trellis", (1, 2, 1), [
            [(0, 1, 0, 0), (0, 0, 1, 4), (0, 1, 3, 0)],
            [(0, 0, 0, 4)],
        ], (0,)))
        self.assertEqual(pair_trellis(LONE, LINE, 0), ("trellis", (1, 1), [[]], (0,)))

    def test_whole(self):
        taps, tails = set(), set()
        for sender, line, blocks, slow in cases(112, 60, 16):
            told = pair_trellis(sender, line, blocks)
            self.assertEqual(told, SlowPairs([(sender, line)], blocks).trellis())
            check_trellis(told)
            taps.add(len(line[1]))
            tails.add(slow.tail)
        self.assertTrue(taps == {1, 2, 3, 4} and {0, 1, 2} <= tails)

    def test_the_one_with_fewer_edges_tells_the_same(self):
        for sender, line, blocks, _ in cases(113, 40, 64):
            whole, least = pair_trellis(sender, line, blocks), Pairs([(sender, line)]).least_trellis(blocks)
            check_trellis(least)
            self.assertEqual((whole[1], whole[3]), (least[1], least[3]))
            self.assertEqual(best_path(whole), best_path(least))
            self.assertEqual(potentials_of(whole), potentials_of(least))
            for edges, fewer in zip(whole[2], least[2]):
                self.assertLessEqual(set(fewer), set(edges))


class Papers(unittest.TestCase):
    def test_by_hand(self):
        paper = distance_paper(LONE, LINE, 1)
        self.assertEqual(paper, ("pair", [0], [1], [[0], [4, 0], [8]]))
        self.assertEqual(check_distance(LONE, LINE, 1, paper), (8, [0], [1]))
        # Lower potentials are right, too, if only the least end is the distance.
        self.assertEqual(check_distance(LONE, LINE, 1, ("pair", [0], [1], [[0], [4, -7], [8]])), (8, [0], [1]))
        for table in ([[0], [4, 0], [7]], [[0], [3, 0], [7]], [[0], [5, 0], [8]], [[0], [4, 1], [8]], [[1], [4, 0], [8]],
                      [[0], [None, 0], [8]], [[0], [4, 0], [None]], [[0], [4, 0], [9]], [[0], [4, 0]], [[0], [4, 0], [8], []],
                      [[False], [4, 0], [8]], ([0], [4, 0], [8]), [[0], [4, 0], (8,)], [[0], [4], [8]]):
            self.assertIsNone(check_distance(LONE, LINE, 1, ("pair", [0], [1], table)), table)

    def test_rows(self):
        table = distance_paper(LONE, LINE, 2)[3]
        for row, other in (([0, 0], [0, 1]), ([0, 0], [1, 0]), ([0, 1], [1, 1]), ([1, 0], [1, 1])):
            told = check_distance(LONE, LINE, 2, ("pair", row, other, table))
            squared = cost_by_hand(run_samples(LONE, LINE, row), run_samples(LONE, LINE, other))
            self.assertEqual(told, (8, row, other) if squared == 8 else None)
        for row, other in (([0, 1], [0, 0]), ([0, 0], [0, 0]), ([0], [1]), ([0, 0], [0, 0, 1]), ([], [1]), ([0, 0], [0, 2]),
                           ([0, -1], [0, 0]), ([0, False], [0, 1]), ([0, 0], [0, True]), ((0, 0), (0, 1)),
                           ((0, 0), [0, 1]), ([0, 0], (0, 1)), ([0, None], [0, 1]), (None, [0, 1]), ("00", "01")):
            self.assertIsNone(check_distance(LONE, LINE, 2, ("pair", row, other, table)), (row, other))

    def test_rows_that_become_the_same(self):
        # Here any two rows are as near as can be: so only what they are counts.
        deaf = ("sender", ("machine", 1, 1, ((0, 0),), (((0,), (0,)),)), ((1,), (1,)), levels(1))
        table = distance_paper(deaf, LINE, 1)[3]
        rows = [[0, 0], [0, 1], [1, 0], [1, 1]]
        wrong = [[0, 2], [1, 2], [2, 0], [-1, 0], [1, -1], [0, True], [False, 1], [1], [1, 1, 1], [], [0, 0, 1], (0, 1)]
        for row in rows + wrong:
            for other in rows + wrong:
                right = str(row) in map(str, rows) and str(other) in map(str, rows) and row < other
                told = check_distance(deaf, LINE, 1, ("pair", row, other, table))
                self.assertEqual(told, (0, row, other) if right else None)

    def test_things_of_any_kind(self):
        paper = distance_paper(HALF, LINE, 2)
        self.assertIsNotNone(check_distance(HALF, LINE, 2, paper))
        for thing in ANY + [list(paper), paper[:3], paper + (0,), ("pairs",) + paper[1:]]:
            self.assertIsNone(check_distance(HALF, LINE, 2, thing), thing)
        for at in range(4):
            for thing in ANY:
                wrong = paper[:at] + (thing,) + paper[at + 1:]
                if wrong != paper:
                    self.assertIsNone(check_distance(HALF, LINE, 2, wrong), wrong)

    def test_no_blocks(self):
        table = potentials_of(pair_trellis(LONE, ONE, 0))
        for thing in (("pair", [], [], table), ("pair", [0], [1], table), distance_paper(LONE, ONE, 1), None):
            self.assertIsNone(check_distance(LONE, ONE, 0, thing))

    def test_of_another_number_of_blocks(self):
        for blocks in range(4):
            for other in range(4):
                told = check_distance(LONE, LINE, blocks, distance_paper(LONE, LINE, other))
                self.assertEqual(told is None, blocks != other or blocks == 0)

    def test_taken_and_shown(self):
        for sender, line, blocks, slow in cases(114, 60, 64):
            paper = distance_paper(sender, line, blocks)
            if blocks == 0:
                self.assertIsNone(paper)
                continue
            told = nearest_pair(sender, line, blocks)
            self.assertEqual(paper, ("pair", told[1], told[2], potentials_of(pair_trellis(sender, line, blocks))))
            self.assertEqual(check_distance(sender, line, blocks, paper), told)

    def test_changed_ones_are_taken_exactly_if_they_are_right(self):
        source = random.Random(115)
        taken = refused = 0
        for sender, line, blocks, slow in cases(116, 40, 16):
            if blocks == 0:
                continue
            trellis, told = pair_trellis(sender, line, blocks), distance(sender, line, blocks)
            for _ in range(8):
                name, row, other, table = distance_paper(sender, line, blocks)
                if source.random() < 0.3:
                    row, other = sorted(source.sample(slow.rows(), 2))
                for _ in range(source.randint(0, 2)):
                    layer = source.choice(table[:-1] if source.random() < 0.7 else table)
                    at = source.randrange(len(layer))
                    layer[at] = source.choice([None, (layer[at] or 0) + source.randint(-9, 3)])
                squared = cost_by_hand(run_samples(sender, line, row), run_samples(sender, line, other))
                shown = check_distance(sender, line, blocks, (name, row, other, table))
                if are_right(trellis, table) and least_end(trellis, table) == squared:
                    self.assertEqual((squared, shown), (told, (told, row, other)))
                    taken += 1
                else:
                    self.assertIsNone(shown)
                    refused += 1
        self.assertTrue(taken > 100 and refused > 100, (taken, refused))


class Noise(unittest.TestCase):
    def test_less_than_a_quarter_of_the_distance_is_borne(self):
        source = random.Random(117)
        heard = 0
        for sender, line, blocks, slow in cases(118, 50, 64):
            least = distance(sender, line, blocks)
            if not least:
                continue
            row = source.choice(slow.rows())
            clear = run_samples(sender, line, row)
            for _ in range(3):
                noise = any_points(source, len(clear), 1)
                while 4 * sum(x * x + y * y for x, y in noise) >= least:
                    noise[source.choice([at for at, point in enumerate(noise) if point != (0, 0)])] = (0, 0)
                verdict = hear_run(sender, line, blocks, spoiled(clear, noise))[0]
                self.assertEqual(verdict[:3], ("row", row, sum(x * x + y * y for x, y in noise)))
                self.assertGreater(verdict[3], 0)
                heard += any(point != (0, 0) for point in noise)
        self.assertGreater(heard, 100)

    def test_half_way_at_the_distance_there_is_a_tie(self):
        ties = 0
        for sender, line, blocks, slow in cases(119, 50, 64):
            told = nearest_pair(sender, line, blocks)
            if told is None:
                continue
            least, row, other = told
            verdict = hear_run(sender, line, blocks, halfway(sender, line, row, other))[0]
            self.assertEqual((verdict[0], 4 * verdict[-1]), ("tie", least))
            ties += least > 0
        self.assertGreater(ties, 40)

    def test_the_middles_of_any_two_rows(self):
        for sender, line, blocks, slow in cases(120, 30, 16):
            for row, one in zip(slow.rows(), slow.runs):
                for other, two in zip(slow.rows(), slow.runs):
                    middles = halfway(sender, line, row, other)
                    self.assertEqual(len(middles), slow.size())
                    for (x, y), (a, b), (c, d) in zip(middles, one[3], two[3]):
                        self.assertEqual((2 * x, 2 * y), (a + c, b + d))

    def test_the_middles_of_no_blocks(self):
        self.assertEqual(halfway(LONE, ONE, [], []), [])
        self.assertEqual(halfway(LONE, line_of((1, 0), (1, 0), (1, 0)), [], []), [(0, 0), (0, 0)])
        self.assertEqual(halfway(HALF, LINE, [], []), run_samples(HALF, LINE, []))
        self.assertEqual(halfway(LONE, LINE, [0, 1], [1, 1]), [(0, 0), (1, 0), (1, 0)])


class Kept(unittest.TestCase):
    def test_arguments_stay_and_results_are_new(self):
        for sender, line, blocks, slow in cases(121, 10, 8):
            for function in (pair_trellis, nearest_pair, distance, distance_paper):
                stands_alone(self, function, sender, line, blocks)
            stands_alone(self, check_distance, sender, line, blocks, distance_paper(sender, line, blocks))
            stands_alone(self, check_distance, sender, line, blocks, ["pair", [0], [1], [[0]]])
            stands_alone(self, halfway, sender, line, slow.rows()[0], slow.rows()[-1])


if __name__ == "__main__":
    unittest.main()
