"""Points 6.1, 6.3 to 6.5, and 1.3: what is heard, and the papers of runs."""

import random
import unittest

from heardtrue.lines import cost, lost, spoiled
from heardtrue.machines import shift_machine
from heardtrue.potentials import paper_of
from heardtrue.runs import blocks_in, check_run, hear_run, run_samples
from heardtrue.senders import check_sender, tail
from heardtrue.smears import run_size, trellis_of
from heardtrue.symbols import levels, square
from slow import HALF, LONE, SHIFT, SlowRuns, any_samples, cases, cost_by_hand
from support import any_machine, any_points, block_bits, fault, line_of, senders, stands_alone

LINE = line_of((1, 0), (1, 0))
ANY = [None, True, False, 0, 1, "", "row", [], (), {}, [0], ("one",), ("tie",), ("row", [0], 0, 1), 1.0, b"one"]


def even_cases(seed, many):
    """Cases with two different rows at least, with all pairs of rows and their squared distances."""
    return [(sender, line, blocks, slow, slow.distances()) for sender, line, blocks, slow in cases(seed, many) if blocks]


class Samples(unittest.TestCase):
    def test_by_hand(self):
        self.assertEqual(run_samples(LONE, line_of((0, 2)), [1, 0]), [(0, 2), (0, -2)])
        self.assertEqual(
            run_samples(SHIFT, LINE, [1, 0]),
            [(1, 0), (2, 0), (2, 0), (0, 0), (0, 0), (2, 0), (0, 0), (-2, 0), (-1, 0)],
        )

    def test_no_block(self):
        self.assertEqual(run_samples(LONE, line_of((1, 0)), []), [])
        self.assertEqual(run_samples(LONE, line_of((1, 0), (1, 0), (9, 0)), []), [(0, 0), (0, 0)])
        self.assertEqual(run_samples(HALF, LINE, []), [(-1, 0), (-2, 0), (-2, 0), (-1, 0)])

    def test_by_a_slow_search(self):
        for sender, line, _, slow in cases(70, 40):
            for row, run in zip(slow.rows(), slow.runs):
                self.assertEqual(run_samples(sender, line, row), run[3])

    def test_row(self):
        wide = ("sender", shift_machine((7, 5)), ((1, 1),) * 4, square(4))
        for sender in (HALF, wide):
            for many in range(9):
                name = None if many % block_bits(sender) == 0 else "row"
                self.assertEqual(fault(run_samples, sender, LINE, [0] * many), name)
                self.assertEqual(fault(blocks_in, sender, [0] * many), name)
                if name is None:
                    self.assertEqual(blocks_in(sender, [0] * many), many // block_bits(sender))


class Heard(unittest.TestCase):
    def test_by_hand(self):
        one = line_of((1, 0))
        self.assertEqual(hear_run(LONE, one, 2, [(3, 0), (-1, 1)])[0], ("row", [1, 0], 5, 4))
        self.assertEqual(hear_run(LONE, one, 2, [(3, 0), (0, 1)])[0], ("tie", [1, 0], [1, 1], 6))
        self.assertEqual(hear_run(LONE, one, 2, [None, (5, 0)])[0], ("tie", [0, 1], [1, 1], 16))
        self.assertEqual(hear_run(LONE, one, 2, [(0, 0), (0, 0)])[0], ("tie", [0, 0], [0, 1], 2))

    def test_all_samples_lost(self):
        for sender in (LONE, SHIFT, HALF):
            for blocks in range(1, 4):
                many = blocks * block_bits(sender)
                verdict = hear_run(sender, LINE, blocks, [None] * run_size(sender, LINE, blocks))[0]
                self.assertEqual(verdict, ("tie", [0] * many, [0] * (many - 1) + [1], 0))

    def test_one_row_alone(self):
        for sender in (LONE, SHIFT, HALF):
            samples = [(1, 0)] * run_size(sender, LINE, 0)
            verdict, paper = hear_run(sender, LINE, 0, samples)
            self.assertEqual(verdict, ("row", [], cost(samples, run_samples(sender, LINE, [])), None))
            self.assertEqual(check_run(sender, LINE, 0, samples, paper), verdict)
        self.assertEqual(hear_run(LONE, line_of((1, 0)), 0, [])[0], ("row", [], 0, None))

    def test_by_a_slow_search(self):
        source = random.Random(71)
        kinds = []
        for sender, line, blocks, slow in cases(72, 60):
            clear = source.choice(slow.runs)[3]
            for samples in (any_samples(source, slow.size()), spoiled(clear, any_points(source, slow.size(), 2))):
                samples = lost(samples, [at for at in range(slow.size()) if source.random() < 0.2])
                verdict, paper = hear_run(sender, line, blocks, samples)
                self.assertEqual(verdict, slow.heard(samples))
                self.assertEqual(check_run(sender, line, blocks, samples, paper), verdict)
                self.assertEqual(paper, paper_of(trellis_of(sender, line, blocks, samples)))
                kinds.append(verdict[0] if verdict[-1] is not None else "alone")
        for kind in ("row", "tie", "alone"):
            self.assertGreater(kinds.count(kind), 20)

    def test_samples(self):
        for sender in (LONE, HALF):
            right = run_size(sender, LINE, 2)
            paper = hear_run(sender, LINE, 2, [(0, 0)] * right)[1]
            for many in list(range(right)) + [right + 1, right + 3]:
                self.assertEqual(fault(hear_run, sender, LINE, 2, [(0, 0)] * many), "samples")
                for thing in [paper] + ANY:
                    self.assertEqual(fault(check_run, sender, LINE, 2, [(0, 0)] * many, thing), "samples")


class Papers(unittest.TestCase):
    def test_the_potentials_of_a_run_by_hand(self):
        verdict, paper = hear_run(LONE, line_of((1, 0)), 1, [(1, 0)])
        self.assertEqual((verdict, paper), (("row", [1], 0, 4), ("one", [1, 0], [[0], [4, 0], [4, 0]])))
        for gap in (1, 2, 3, 4):
            shown = check_run(LONE, line_of((1, 0)), 1, [(1, 0)], ("one", [1, 0], [[0], [gap, 0], [gap, 0]]))
            self.assertEqual(shown, ("row", [1], 0, gap))
        for gap in (0, -1, 5, None, True):
            paper = ("one", [1, 0], [[0], [gap, 0], [gap, 0]])
            self.assertIsNone(check_run(LONE, line_of((1, 0)), 1, [(1, 0)], paper))

    def test_one_row_alone(self):
        line = line_of((1, 0))
        for gap in (1, 99):
            self.assertEqual(check_run(LONE, line, 0, [], ("one", [0], [[0], [gap, 0]])), ("row", [], 0, gap))
        self.assertEqual(check_run(LONE, line, 0, [], ("one", [0], [[0], [None, 0]])), ("row", [], 0, None))
        for gap in (0, -1):
            self.assertIsNone(check_run(LONE, line, 0, [], ("one", [0], [[0], [gap, 0]])))

    def test_a_tie_of_any_two_nearest_rows(self):
        line, samples = line_of((1, 0)), [None, None]
        table = hear_run(LONE, line, 2, samples)[1][3]
        rows = [[0, 0], [0, 1], [1, 0], [1, 1]]
        for at, row in enumerate(rows):
            for place, other in enumerate(rows):
                shown = check_run(LONE, line, 2, samples, ("tie", row + [0], other + [0], table))
                self.assertEqual(shown, ("tie", row, other, 0) if at < place else None)

    def test_things_of_any_kind(self):
        samples = [(1, 0)] * run_size(HALF, LINE, 1)
        for thing in ANY:
            self.assertIsNone(check_run(HALF, LINE, 1, samples, thing), thing)
        paper = hear_run(HALF, LINE, 1, samples)[1]
        self.assertEqual(paper[0], "one")
        for at in range(3):
            for thing in ANY:
                wrong = paper[:at] + (thing,) + paper[at + 1:]
                self.assertIsNone(check_run(HALF, LINE, 1, samples, wrong), wrong)
        self.assertIsNone(check_run(HALF, LINE, 1, samples, list(paper)))
        # The labels are those of the tail and the silence, too.
        self.assertIsNone(check_run(HALF, LINE, 1, samples, ("one", paper[1][:1], paper[2])))
        self.assertIsNone(check_run(HALF, LINE, 1, samples, ("one", paper[1][:-1] + [1], paper[2])))

    def test_papers_of_other_samples_show_what_is_true(self):
        source = random.Random(73)
        taken = 0
        for sender, line, blocks, slow in cases(74, 40):
            samples = any_samples(source, slow.size())
            near = [None if point is None else (point[0] + source.randint(-1, 1), point[1]) for point in samples]
            for other in (near, any_samples(source, slow.size()), samples):
                paper = hear_run(sender, line, blocks, other)[1]
                taken += self.shows_what_is_true(slow, samples, check_run(sender, line, blocks, samples, paper))
        self.assertGreater(taken, 60)

    def test_changed_papers_show_what_is_true(self):
        source = random.Random(75)
        taken = 0
        for sender, line, blocks, slow in cases(76, 40):
            samples = any_samples(source, slow.size())
            paper = hear_run(sender, line, blocks, samples)[1]
            row = source.choice(paper[-1])
            at = source.randrange(len(row))
            for item in (None, 0, (row[at] or 0) - 1, (row[at] or 0) + 1, (row[at] or 0) - 3):
                row[at] = item
                taken += self.shows_what_is_true(slow, samples, check_run(sender, line, blocks, samples, paper))
        self.assertGreater(taken, 60)

    def shows_what_is_true(self, slow, samples, shown):
        if shown is None:
            return False
        costs = dict(zip(map(tuple, slow.rows()), [cost_by_hand(samples, run[3]) for run in slow.runs]))
        least = min(costs.values())
        self.assertEqual(costs[tuple(shown[1])], least)
        if shown[0] == "tie":
            self.assertEqual((shown[3], costs[tuple(shown[2])]), (least, least))
            self.assertLess(shown[1], shown[2])
            return True
        others = [spent for row, spent in costs.items() if row != tuple(shown[1])]
        self.assertEqual((shown[0], shown[2]), ("row", least))
        self.assertTrue(shown[3] is None or shown[3] > 0)
        if others:
            self.assertLessEqual(shown[3], min(others) - least)
        return True


class Noise(unittest.TestCase):
    def test_the_cost_of_the_row_is_the_size_of_the_noise_that_is_left(self):
        source = random.Random(77)
        for sender, line, blocks, slow in cases(78, 40):
            at = source.randrange(len(slow.runs))
            noise = any_points(source, slow.size(), 1)
            gone = [place for place in range(slow.size()) if source.random() < 0.3]
            samples = lost(spoiled(run_samples(sender, line, slow.rows()[at]), noise), gone)
            left = sum(x * x + y * y for place, (x, y) in enumerate(noise) if place not in gone)
            self.assertEqual(cost(samples, slow.runs[at][3]), left)
            verdict = hear_run(sender, line, blocks, samples)[0]
            self.assertLessEqual(verdict[2] if verdict[0] == "row" else verdict[3], left)
            if verdict[:2] == ("row", slow.rows()[at]):
                self.assertEqual(verdict[2], left)

    def test_below_the_bound_the_row_is_heard(self):
        source = random.Random(79)
        heard = 0
        for sender, line, blocks, slow, pairs in even_cases(80, 60):
            least = min(distance for distance, _, _ in pairs)
            for row, run in zip(slow.rows()[:4], slow.runs):
                noise = [(0, 0)] * slow.size()
                while True:
                    more = list(noise)
                    place = source.randrange(len(noise))
                    more[place] = (noise[place][0] + source.choice((-1, 1)), noise[place][1] + source.choice((0, 1)))
                    if 4 * sum(x * x + y * y for x, y in more) >= least:
                        break
                    noise = more
                size = sum(x * x + y * y for x, y in noise)
                if least > 0:
                    verdict = hear_run(sender, line, blocks, spoiled(run[3], noise))[0]
                    self.assertEqual(verdict[:3], ("row", row, size))
                    self.assertGreater(verdict[3], 0)
                    heard += size > 0
        self.assertGreater(heard, 100)

    def test_half_way_there_is_a_tie(self):
        ties = 0
        for sender, line, blocks, slow, pairs in even_cases(81, 60):
            distance, row, other = min(pairs)
            sides = zip(run_samples(sender, line, row), run_samples(sender, line, other))
            middles = [((a + c) // 2, (b + d) // 2) for (a, b), (c, d) in sides]
            verdict = hear_run(sender, line, blocks, middles)[0]
            self.assertEqual(verdict[0], "tie")
            self.assertEqual(4 * verdict[3], distance)
            self.assertEqual(verdict, slow.heard(middles))
            ties += distance > 0
        self.assertGreater(ties, 30)

    def test_the_bound_by_hand(self):
        sender, line = ("sender", shift_machine((7, 5)), ((1, 1),), levels(1)), line_of((1, 0))
        slow = SlowRuns(sender, line, 3)
        self.assertEqual(min(slow.distances())[0], 20)
        clear = run_samples(sender, line, [1, 0, 1])
        noise = [(0, 0)] * len(clear)
        noise[3] = (2, 0)
        self.assertEqual(hear_run(sender, line, 3, spoiled(clear, noise))[0][:3], ("row", [1, 0, 1], 4))


class Large(unittest.TestCase):
    def test_senders_and_lines_of_all_sizes_are_heard(self):
        source = random.Random(240)
        four = line_of((3, 0), (1, 1), (0, 1), (1, 0))
        sixteen = shift_machine((19, 29))
        parts = [
            (("sender", sixteen, ((1, 1),), levels(1)), four, 14),
            (("sender", sixteen, ((1, 1),) * 4, square(4)), LINE, 14),
            (("sender", sixteen, ((1, 1), (1, 0), (0, 1), (1, 1)), levels(3)), four, 6),
            (self.wide(source, 16, 1, square(4)), line_of((5, 0), (0, 1)), 8),
            (self.wide(source, 2, 4, levels(4)), four, 2),
        ]
        for sender, line, blocks in parts:
            row = [source.randrange(2) for _ in range(blocks * block_bits(sender))]
            clear = run_samples(sender, line, row)
            self.assertEqual(len(clear), run_size(sender, line, blocks))
            verdict, paper = hear_run(sender, line, blocks, clear)
            self.assertEqual(verdict[2] if verdict[0] == "row" else verdict[3], 0)
            if verdict[0] == "row":
                self.assertEqual(verdict[1], row)
            self.assertEqual(check_run(sender, line, blocks, clear, paper), verdict)

    def wide(self, source, states, rows, symbols):
        """A sender with 2 bits in and 4 out a step, and so many rows in its pattern."""
        while True:
            sender = ("sender", any_machine(source, 2, 4, states), ((1, 1, 1, 1),) * rows, symbols)
            if fault(check_sender, sender) is None:
                return sender


class Kept(unittest.TestCase):
    def test_arguments_stay_and_results_are_new(self):
        for sender, line, blocks, slow in cases(82, 12, 8):
            self.assertEqual(tail(sender)[0], slow.tail)
            for samples in ([None] * slow.size(), slow.runs[-1][3]):
                paper = hear_run(sender, line, blocks, samples)[1]
                stands_alone(self, run_samples, sender, line, slow.rows()[-1])
                stands_alone(self, hear_run, sender, line, blocks, samples)
                stands_alone(self, check_run, sender, line, blocks, samples, paper)
                stands_alone(self, check_run, sender, line, blocks, samples, ["one", [0]])
                stands_alone(self, blocks_in, sender, slow.rows()[-1])


if __name__ == "__main__":
    unittest.main()
