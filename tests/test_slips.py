"""Points 13.1 to 13.6: lines that slip."""

import random
import unittest
from itertools import product

from heardtrue.lines import lost, spoiled
from heardtrue.machines import shift_machine
from heardtrue.potentials import are_right, least_end, potentials_of
from heardtrue.runs import hear_run, run_samples
from heardtrue.slips import check_slipped, hear_slipped, slip_trellis, slipped
from heardtrue.symbols import levels
from heardtrue.trellises import best_path, check_trellis, cost_of
from slow import HALF, LONE, SHIFT, SlowRuns, cost_by_hand
from support import any_line, any_points, block_bits, fault, line_of, number_in, senders, stands_alone

ONE = line_of((1, 0))
LINE = line_of((1, 0), (0, 2))
# Six points, and just five, in a block.
SIX = ("sender", shift_machine((7, 5)), ((1, 1), (1, 1), (1, 1)), levels(1))
FIVE = ("sender", shift_machine((7, 5)), ((1, 1), (1, 1), (0, 1)), levels(1))
ANY = [None, True, False, 0, 1, "", "one", "tie", [], (), {}, [0], ("one",), ("tie", [0], [1]), ("one", [0]), 1.0, b"one"]


def copied(samples, copies):
    return [sample for sample, many in zip(samples, copies) for _ in range(many)]


class SlowSlips:
    """All rows with all copies."""

    def __init__(self, sender, line, blocks, most, samples):
        self.sender, self.blocks, self.most, self.samples = sender, blocks, most, samples
        self.slow = SlowRuns(sender, line, blocks)
        self.times = self.slow.times() + 1

    def steps(self, run, time, used, slips):
        """The label, the copies, the heard samples that were used, the slips, and the cost of a stage."""
        clear = self.slow.window(run[3], time)
        label = run[0][time] if time < self.times - 1 else 0
        for copies in product(range(3), repeat=len(clear)):
            spent = sum(copies)
            more = slips + sum(many != 1 for many in copies)
            if used + spent <= len(self.samples) and more <= self.most:
                heard = self.samples[used:used + spent]
                told = label * 3 ** len(clear) + number_in_three(copies)
                yield told, list(copies), used + spent, more, cost_by_hand(heard, copied(clear, copies))

    def room(self, run, time, own, used, slips):
        inner = (0, ())
        if time < self.times:
            inner = (run[1][time], self.slow.lasts(run[2], time))
        part = 0 if own is None else int(run[0][:min(time, self.blocks)] != own[:time])
        return (part, inner, used, slips)

    def walk(self, own=None):
        """The rooms of all times, the edges of all layers, and all paths."""
        rooms = [set() for _ in range(self.times + 1)]
        edges = [set() for _ in range(self.times)]
        paths = []
        for run, row in zip(self.slow.runs, self.slow.rows()):
            ways = [([], [], 0, 0, 0)]
            rooms[0].add(self.room(run, 0, own, 0, 0))
            for time in range(self.times):
                longer = []
                for labels, copies, used, slips, spent in ways:
                    for label, more, last, most, cost in self.steps(run, time, used, slips):
                        here = self.room(run, time, own, used, slips)
                        there = self.room(run, time + 1, own, last, most)
                        rooms[time + 1].add(there)
                        edges[time].add((here, label, there, cost))
                        longer.append((labels + [label], copies + more, last, most, spent + cost))
                ways = longer
            paths += [(spent, labels, row, copies) for labels, copies, used, _, spent in ways if used == len(self.samples)]
        return rooms, edges, paths

    def trellis(self, own=None):
        rooms, edges, _ = self.walk(own)
        rows = [sorted(told) for told in rooms]
        if not all(rows):
            return None
        layers = [
            sorted(((rows[at].index(here), rows[at + 1].index(there), label, cost) for here, label, there, cost in told),
                   key=lambda edge: (edge[0], edge[2]))
            for at, told in enumerate(edges)
        ]
        ends = [
            at for at, room in enumerate(rows[-1]) if room[2] == len(self.samples) and (own is None or room[0] == 1)
        ]
        return ("trellis", tuple(map(len, rows)), layers, tuple(ends))

    def heard(self):
        """The verdict of point 13.4."""
        _, _, paths = self.walk()
        if not paths:
            return None
        spent, _, row, copies = min(paths)
        others = [path for path in paths if path[2] != row]
        if others and min(others)[0] == spent:
            return ("tie", row, min(others)[2], spent)
        return ("row", row, spent, min(others)[0] - spent if others else None, copies)


def number_in_three(copies):
    told = 0
    for many in copies:
        told = 3 * told + many
    return told


def any_copies(source, many, most):
    """Copies of so many samples with at most so many slips."""
    copies = [1] * many
    for place in source.sample(range(many), min(many, source.randint(0, most))):
        copies[place] = source.choice((0, 2))
    return copies


def cases(seed, many, most_runs=8, most_size=6):
    """Small senders, lines, numbers of blocks and of slips, and samples that slipped, with noise, some lost."""
    source = random.Random(seed)
    found = []
    for at, sender in enumerate(senders(seed + 1, many, 3, 3)):
        line = any_line(source, at % 3 + 1, 2)
        for blocks in range(3):
            if 2 ** (block_bits(sender) * blocks) > most_runs:
                continue
            slow = SlowRuns(sender, line, blocks)
            if slow.many <= 5 and slow.size() <= most_size:
                most = source.randint(0, 3)
                clear = source.choice(slow.runs)[3]
                samples = copied(clear, any_copies(source, len(clear), most + (source.random() < 0.2)))
                noise = any_points(source, len(samples), source.choice((0, 1, 1, 4)))
                samples = lost(spoiled(samples, noise), [at for at in range(len(samples)) if source.random() < 0.15])
                found.append((sender, line, blocks, most, samples))
    return found


class Copies(unittest.TestCase):
    def test_slipped(self):
        self.assertEqual(slipped([(1, 0), (2, 0), (3, 0)], [1, 0, 2]), [(1, 0), (3, 0), (3, 0)])
        self.assertEqual(slipped([(1, 0), None, (3, 0)], [2, 2, 0]), [(1, 0), (1, 0), None, None])
        self.assertEqual(slipped([], []), [])
        self.assertEqual(slipped([(1, 0)], [0]), [])


class Trellises(unittest.TestCase):
    def test_by_hand(self):
        # The symbols are -1 and 1; each sample is 0, 1 or 2 times there.
        told = slip_trellis(LONE, ONE, 1, 1, [(1, 0)])
        self.assertEqual(told, ("trellis", (1, 2, 2), [
            [(0, 0, 0, 0), (0, 1, 1, 4), (0, 0, 3, 0), (0, 1, 4, 0)],
            [(0, 0, 0, 0), (1, 1, 0, 0)],
        ], (1,)))
        told = slip_trellis(LONE, ONE, 1, 1, [(1, 0), (0, 1)], [1])
        # The rooms are those of the row 1 with 0, 1 and 2 samples, and then those of the row 0.
        self.assertEqual(told[1], (1, 6, 6))
        self.assertEqual(told[2][0], [(0, 3, 0, 0), (0, 4, 1, 4), (0, 5, 2, 6), (0, 0, 3, 0), (0, 1, 4, 0), (0, 2, 5, 2)])
        self.assertEqual(told[3], (5,))

    def test_whole(self):
        source = random.Random(210)
        kinds = set()
        for sender, line, blocks, most, samples in cases(211, 60):
            slow = SlowSlips(sender, line, blocks, most, samples)
            told = slip_trellis(sender, line, blocks, most, samples)
            self.assertEqual(told, slow.trellis())
            self.assertEqual(slip_trellis(sender, line, blocks, most, samples, None), told)
            at = source.randrange(len(slow.slow.runs))
            row, labels = slow.slow.rows()[at], slow.slow.runs[at][0][:blocks]
            apart = slip_trellis(sender, line, blocks, most, samples, row)
            self.assertEqual(apart, slow.trellis(labels))
            self.assertEqual(slip_trellis(sender, line, blocks, most, samples, row=row), apart)
            for trellis in (told, apart):
                if trellis is not None:
                    check_trellis(trellis)
            kinds.add((told is None, told is not None and told[3] == (), most))
        self.assertLessEqual({(False, False, most) for most in range(4)}, kinds)
        self.assertLessEqual({True}, {no_ends for _, no_ends, _ in kinds})

    def test_no_room(self):
        self.assertIsNone(slip_trellis(LONE, ONE, 3, 2, []))
        self.assertIsNone(slip_trellis(LONE, ONE, 3, 2, [], [0, 0, 0]))
        self.assertIsNotNone(slip_trellis(LONE, ONE, 3, 3, []))
        self.assertIsNone(slip_trellis(LONE, ONE, 3, 0, [None, None]))
        self.assertIsNotNone(slip_trellis(LONE, ONE, 3, 0, [None] * 3))
        # All samples of the silence are needed, too.
        self.assertIsNone(slip_trellis(LONE, LINE, 3, 0, [None] * 3))

    def test_no_end(self):
        told = slip_trellis(LONE, ONE, 2, 1, [None] * 4)
        self.assertEqual(told[3], ())
        self.assertEqual(slip_trellis(LONE, ONE, 2, 1, [None] * 3)[3], (2,))
        # No block, no other row.
        self.assertEqual(slip_trellis(HALF, ONE, 0, 1, [None] * 3)[3], (1,))
        self.assertEqual(slip_trellis(HALF, ONE, 0, 1, [None] * 3, [])[3], ())

    def test_slips(self):
        for sender, name in ((SIX, "slips"), (FIVE, None)):
            paper = ("one", [0], [[0]])
            self.assertEqual(fault(slip_trellis, sender, ONE, 0, 1, [None]), name)
            self.assertEqual(fault(slip_trellis, sender, ONE, 0, 1, [None], []), name)
            self.assertEqual(fault(hear_slipped, sender, ONE, 0, 1, [None]), name)
            for thing in ANY + [paper]:
                self.assertEqual(fault(check_slipped, sender, ONE, 0, 1, [None], thing), name)


class Heard(unittest.TestCase):
    def test_by_hand(self):
        told, paper = hear_slipped(LONE, ONE, 2, 1, [(1, 0), (1, 0), (-1, 1)])
        self.assertEqual(told, ("row", [1, 0], 1, 4, [2, 1]))
        self.assertEqual(check_slipped(LONE, ONE, 2, 1, [(1, 0), (1, 0), (-1, 1)], paper), told)
        told, _ = hear_slipped(LONE, ONE, 2, 1, [(1, 0)])
        # The row 1 1 with the copies 0 1 has lesser labels than 1 0 with 1 0.
        self.assertEqual(told, ("tie", [0, 1], [1, 1], 0))
        told, _ = hear_slipped(LONE, ONE, 1, 1, [])
        self.assertEqual(told, ("tie", [0], [1], 0))
        told, _ = hear_slipped(LONE, ONE, 1, 0, [(3, 0)])
        self.assertEqual(told, ("row", [1], 4, 12, [1]))

    def test_samples_of_any_size(self):
        far = 10 ** 40
        told, paper = hear_slipped(LONE, ONE, 2, 1, [(far, 0), (far, far), (-far, 1)])
        self.assertEqual(told, SlowSlips(LONE, ONE, 2, 1, [(far, 0), (far, far), (-far, 1)]).heard())
        self.assertEqual(check_slipped(LONE, ONE, 2, 1, [(far, 0), (far, far), (-far, 1)], paper), told)
        self.assertEqual(told[:2], ("row", [1, 0]))

    def test_no_path(self):
        for blocks, most, samples in ((1, 0, []), (1, 0, [None] * 2), (2, 1, []), (2, 2, [None] * 5), (0, 3, [None])):
            self.assertEqual(hear_slipped(LONE, ONE, blocks, most, samples), (None, None))
            for thing in ANY + [("one", [0, 0], [[0], [0], [0]])]:
                self.assertIsNone(check_slipped(LONE, ONE, blocks, most, samples, thing))

    def test_one_row_alone(self):
        samples = run_samples(HALF, LINE, [])
        for most, copies in ((1, [1, 1, 1, 1]), (2, [1, 0, 2, 1])):
            # The two samples in the middle are the same: so the least labels leave one out and give the other one twice.
            told, paper = hear_slipped(HALF, LINE, 0, most, samples)
            self.assertEqual(told, ("row", [], 0, None, copies))
            self.assertEqual(check_slipped(HALF, LINE, 0, most, samples, paper), told)
        self.assertEqual(hear_slipped(LONE, ONE, 0, 2, [])[0], ("row", [], 0, None, []))

    def test_by_a_slow_search(self):
        kinds = []
        for sender, line, blocks, most, samples in cases(213, 120):
            wanted = SlowSlips(sender, line, blocks, most, samples).heard()
            told, paper = hear_slipped(sender, line, blocks, most, samples)
            self.assertEqual(told, wanted)
            self.assertEqual(paper is None, wanted is None)
            self.assertEqual(check_slipped(sender, line, blocks, most, samples, paper), wanted)
            kinds.append("none" if told is None else "alone" if told[3] is None else told[0])
        for kind in ("row", "tie", "none", "alone"):
            self.assertGreater(kinds.count(kind), 5, kinds)

    def test_the_paper_has_the_potentials_of_the_whole_trellis(self):
        for sender, line, blocks, most, samples in cases(215, 60):
            verdict, paper = hear_slipped(sender, line, blocks, most, samples)
            if paper is None:
                continue
            whole = slip_trellis(sender, line, blocks, most, samples)
            self.assertEqual(paper[1], best_path(whole)[0])
            apart = slip_trellis(sender, line, blocks, most, samples, verdict[1])
            if paper[0] == "one":
                self.assertEqual(paper[2], potentials_of(apart))
            else:
                self.assertEqual((paper[2], paper[3]), (best_path(apart)[0], potentials_of(whole)))

    def test_a_row_without_noise_costs_nothing(self):
        source = random.Random(217)
        heard = 0
        for sender in (LONE, SHIFT, HALF, FIVE):
            for line in (ONE, LINE, line_of((2, 0), (0, 1), (1, 0))):
                for blocks in (1, 2):
                    for most in (0, 1, 2):
                        row = [source.randrange(2) for _ in range(blocks * block_bits(sender))]
                        clear = run_samples(sender, line, row)
                        samples = copied(clear, any_copies(source, len(clear), most))
                        samples = lost(samples, [at for at in range(len(samples)) if source.random() < 0.1])
                        told, paper = hear_slipped(sender, line, blocks, most, samples)
                        self.assertEqual(told[3] if told[0] == "tie" else told[2], 0)
                        if told[0] == "row":
                            self.assertEqual(told[1], row)
                            heard += 1
                        self.assertEqual(check_slipped(sender, line, blocks, most, samples, paper), told)
        self.assertGreater(heard, 30)

    def test_many_slips_and_wide_blocks(self):
        source = random.Random(218)
        for sender, line, blocks, most in ((FIVE, LINE, 2, 8), (SHIFT, line_of((3, 0), (1, 1), (0, 1), (1, 0)), 5, 3)):
            row = [source.randrange(2) for _ in range(blocks * block_bits(sender))]
            clear = run_samples(sender, line, row)
            samples = copied(clear, any_copies(source, len(clear), most))
            told, paper = hear_slipped(sender, line, blocks, most, samples)
            self.assertEqual(told[2] if told[0] == "row" else told[3], 0)
            self.assertEqual(check_slipped(sender, line, blocks, most, samples, paper), told)

    def test_without_slips_as_in_the_chapter_runs(self):
        source = random.Random(219)
        for sender in (LONE, SHIFT, HALF, FIVE):
            for line in (ONE, LINE):
                for blocks in range(3):
                    many = len(run_samples(sender, line, [0] * (blocks * block_bits(sender))))
                    samples = lost(any_points(source, many, 3), [at for at in range(many) if source.random() < 0.2])
                    wanted, _ = hear_run(sender, line, blocks, samples)
                    told, paper = hear_slipped(sender, line, blocks, 0, samples)
                    if wanted[0] == "row":
                        wanted = wanted + ([1] * many,)
                    self.assertEqual(told, wanted)
                    self.assertEqual(check_slipped(sender, line, blocks, 0, samples, paper), told)


class Papers(unittest.TestCase):
    def test_another_path_of_the_row(self):
        samples = [(1, 0), (1, 0), (-1, 0)]
        told, (name, labels, table) = hear_slipped(LONE, ONE, 2, 1, samples)
        self.assertEqual((told, labels), (("row", [1, 0], 0, 4, [2, 1]), [5, 1, 0]))
        # 1 once and 0 twice costs 4, as much as the other rows; with noise it is still nearer than these.
        self.assertIsNone(check_slipped(LONE, ONE, 2, 1, samples, (name, [4, 2, 0], table)))
        samples = [(1, 0), (-3, 0), (-3, 0), (-1, 0)]
        told, (name, labels, table) = hear_slipped(LONE, ONE, 3, 1, samples)
        self.assertEqual((told[1], labels), ([1, 0, 0], [4, 1, 2, 0]))
        shown = check_slipped(LONE, ONE, 3, 1, samples, (name, [4, 2, 1, 0], table))
        self.assertEqual(shown, ("row", [1, 0, 0], told[2], told[3], [1, 2, 1]))

    def test_ties_in_any_order(self):
        samples = [(1, 0)]
        told, (name, labels, others, table) = hear_slipped(LONE, ONE, 2, 1, samples)
        self.assertEqual((told, labels, others), (("tie", [0, 1], [1, 1], 0), [0, 4, 0], [3, 4, 0]))
        shown = check_slipped(LONE, ONE, 2, 1, samples, (name, others, labels, table))
        self.assertEqual(shown, ("tie", [1, 1], [0, 1], 0))
        # Two paths of one row are no tie, also where their copies differ.
        self.assertIsNone(check_slipped(LONE, ONE, 2, 1, samples, (name, labels, labels, table)))
        self.assertIsNone(check_slipped(LONE, ONE, 2, 1, samples, (name, [3, 4, 0], [4, 3, 0], table)))
        self.assertEqual(check_slipped(LONE, ONE, 2, 1, samples, (name, [3, 4, 0], [4, 0, 0], table))[0], "tie")

    def test_labels(self):
        samples = [(1, 0), (1, 0), (-1, 0)]
        _, (name, labels, table) = hear_slipped(LONE, ONE, 2, 1, samples)
        self.assertEqual(labels, [5, 1, 0])
        for wrong in ([5, 1], [5, 1, 0, 0], [5, 1, 1], [-1, 1, 0], [6, 1, 0], [5, 2, 0], [5, True, 0], [5, 1, False],
                      (5, 1, 0), [5.0, 1, 0], [5, 1, None], ["5", 1, 0], [[5], 1, 0], [3, 2, 0], [99, 1, 0]):
            self.assertIsNone(check_slipped(LONE, ONE, 2, 1, samples, (name, wrong, table)), wrong)

    def test_things_of_any_kind(self):
        for samples in ([(1, 0), (1, 0), (-1, 0)], [(1, 0)]):
            paper = hear_slipped(LONE, ONE, 2, 1, samples)[1]
            for thing in ANY + [list(paper), paper[:-1], paper + (0,), ("ones",) + paper[1:]]:
                self.assertIsNone(check_slipped(LONE, ONE, 2, 1, samples, thing), thing)
            for at in range(len(paper)):
                for thing in ANY:
                    wrong = paper[:at] + (thing,) + paper[at + 1:]
                    if wrong != paper:
                        self.assertIsNone(check_slipped(LONE, ONE, 2, 1, samples, wrong), wrong)

    def test_changed_ones_show_what_is_true(self):
        source = random.Random(220)
        taken = refused = 0
        for sender, line, blocks, most, samples in cases(221, 100):
            slow = SlowSlips(sender, line, blocks, most, samples)
            _, _, paths = slow.walk()
            for _ in range(4):
                _, paper = hear_slipped(sender, line, blocks, most, samples)
                if paper is None:
                    continue
                if source.random() < 0.4:
                    paper = (paper[0], source.choice(paths)[1]) + paper[2:]
                table = paper[-1]
                for _ in range(source.randint(0, 2)):
                    row = source.choice(table)
                    at = source.randrange(len(row))
                    row[at] = source.choice([None, (row[at] or 0) - source.randint(-1, 5)])
                shown = check_slipped(sender, line, blocks, most, samples, paper)
                self.assertEqual(shown, self.shown(slow, paths, paper, (sender, line, blocks, most, samples)))
                taken += shown is not None
                refused += shown is None
        self.assertTrue(taken > 80 and refused > 80, (taken, refused))

    def shown(self, slow, paths, paper, run):
        """Point 13.5 by its words, with the whole trellises."""
        told = [path for path in paths if path[1] == paper[1]]
        if not told:
            return None
        spent, _, row, copies = told[0]
        whole = slip_trellis(*run)
        self.assertEqual(cost_of(whole, paper[1]), spent)
        if paper[0] == "one":
            apart = slip_trellis(*run, row)
            if not are_right(apart, paper[2]):
                return None
            least = least_end(apart, paper[2])
            if least is not None and least <= spent:
                return None
            return ("row", row, spent, None if least is None else least - spent, copies)
        other = [path for path in paths if path[1] == paper[2]][0]
        if other[0] != spent or other[2] == row or not are_right(whole, paper[3]) or least_end(whole, paper[3]) != spent:
            return None
        return ("tie", row, other[2], spent)

    def test_all_papers_that_are_taken_show_one_row(self):
        for sender, line, blocks, most, samples in cases(223, 40, 4, 5):
            verdict, paper = hear_slipped(sender, line, blocks, most, samples)
            _, _, paths = SlowSlips(sender, line, blocks, most, samples).walk()
            for path in paths:
                for row in {tuple(told[2]) for told in paths}:
                    apart = slip_trellis(sender, line, blocks, most, samples, list(row))
                    one = ("one", path[1], potentials_of(apart))
                    shown = check_slipped(sender, line, blocks, most, samples, one)
                    if shown is not None:
                        self.assertEqual((shown[0], shown[1]), (verdict[0], verdict[1]))


class Kept(unittest.TestCase):
    def test_arguments_stay_and_results_are_new(self):
        stands_alone(self, slipped, [(1, 0), None], [2, 1])
        for sender, line, blocks, most, samples in cases(225, 12):
            paper = hear_slipped(sender, line, blocks, most, samples)[1]
            stands_alone(self, slip_trellis, sender, line, blocks, most, samples)
            stands_alone(self, slip_trellis, sender, line, blocks, most, samples, [0] * (blocks * block_bits(sender)))
            stands_alone(self, hear_slipped, sender, line, blocks, most, samples)
            stands_alone(self, check_slipped, sender, line, blocks, most, samples, paper)


if __name__ == "__main__":
    unittest.main()
