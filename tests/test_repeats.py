"""Points 18.1 to 18.3: runs that come in parts."""

import random
import unittest

from heardtrue.distances import distance
from heardtrue.lines import lost, spoiled
from heardtrue.machines import shift_machine
from heardtrue.pairs import Pairs
from heardtrue.potentials import paper_of
from heardtrue.repeats import check_parts, check_repeats, hear_repeats, repeat_distance, repeat_trellis
from heardtrue.runs import hear_run, run_samples
from heardtrue.senders import check_sender
from heardtrue.smears import run_size
from heardtrue.symbols import levels, square
from heardtrue.trellises import best_path, check_trellis
from slow import HALF, LONE, SHIFT, SlowPairs, SlowRuns, any_samples, cost_by_hand
from support import (
    any_line, any_machine, any_pattern, any_points, any_symbols, block_bits, fault, line_of, stands_alone,
)

ONE = line_of((1, 0))
LINE = line_of((1, 0), (0, 2))
ANY = [None, True, False, 0, 1, "", "row", [], (), {}, [0], ("one",), ("tie",), ("row", [0], 0, 1), 1.0, b"one"]


class SlowParts:
    """All rows of a run that comes in parts."""

    def __init__(self, parts, blocks):
        self.parts = [SlowRuns(sender, line, blocks) for sender, line in parts]
        self.first = self.parts[0]

    def sizes(self):
        return [part.size() for part in self.parts]

    def cost(self, at, heard):
        return sum(cost_by_hand(samples, part.runs[at][3]) for part, samples in zip(self.parts, heard))

    def room(self, at, time):
        return tuple((part.runs[at][1][time], part.lasts(part.runs[at][2], time)) for part in self.parts)

    def trellis(self, heard):
        many = len(self.first.runs)
        times = self.first.times()
        rows = [sorted({self.room(at, time) for at in range(many)}) for time in range(times + 1)]
        layers = []
        for time in range(times + 1):
            edges = set()
            for at in range(many):
                here, there, label = rows[time].index(self.room(at, time)), 0, 0
                if time < times:
                    there, label = rows[time + 1].index(self.room(at, time + 1)), self.first.runs[at][0][time]
                cost = sum(
                    cost_by_hand(part.window(samples, time), part.window(part.runs[at][3], time))
                    for part, samples in zip(self.parts, heard)
                )
                edges.add((here, there, label, cost))
            layers.append(sorted(edges, key=lambda edge: (edge[0], edge[2])))
        return ("trellis", tuple(map(len, rows)) + (1,), layers, (0,))

    def heard(self, heard):
        """The verdict of point 6.3 for these costs."""
        ranked = sorted((self.cost(at, heard), row) for at, row in enumerate(self.first.rows()))
        if len(ranked) == 1:
            return ("row", ranked[0][1], ranked[0][0], None)
        if ranked[0][0] < ranked[1][0]:
            return ("row", ranked[0][1], ranked[0][0], ranked[1][0] - ranked[0][0])
        return ("tie", ranked[0][1], ranked[1][1], ranked[0][0])

    def distances(self):
        """All pairs of different rows, with the sums of their squared distances."""
        told = [part.distances() for part in self.parts]
        return [(sum(one[0] for one in beside), beside[0][1], beside[0][2]) for beside in zip(*told)]


def any_parts(source, many, most_bits=3):
    """So many parts: one machine, and unlike patterns, symbols and lines."""
    while True:
        k, n, rows = source.randint(1, 2), source.randint(1, 3), source.randint(1, 3)
        machine = any_machine(source, k, n, source.randint(1, 3))
        parts = []
        while rows * k <= most_bits and len(parts) < many:
            bits = source.randint(1, 3)
            pattern = any_pattern(source, rows, n, bits)
            if pattern is None:
                break
            sender = ("sender", machine, pattern, any_symbols(source, bits))
            if fault(check_sender, sender) is not None:
                break
            parts.append((sender, any_line(source, source.randint(1, 3), 2)))
        if len(parts) == many:
            return parts


def cases(seed, many):
    """Parts, numbers of blocks, and all their rows."""
    source = random.Random(seed)
    found = []
    while len(found) < many:
        parts = any_parts(source, source.randint(1, 3))
        blocks = source.randint(0, 3)
        if 2 ** (block_bits(parts[0][0]) * blocks) <= 32:
            slow = SlowParts(parts, blocks)
            if slow.first.tail * block_bits(parts[0][0]) <= 8:
                found.append((parts, blocks, slow))
    return found


class Checked(unittest.TestCase):
    BAD = [
        (("sender", ("machine", 3, 1, ((0, 0),), (((0,), (1,)),)), ((1,),), levels(1)), "machine"),
        (("sender", LONE[1], ((1,),), ("symbols", 5, ((-1, 0), (1, 0)))), "bits"),
        (("sender", LONE[1], ((1,),), ("symbols", 2, ((-1, 0), (1, 0)))), "many"),
        (("sender", LONE[1], ((1,),), ("symbols", 1, ((-1, 0), (1001, 0)))), "point"),
        (("sender", LONE[1], ((1,),), ("symbols", 1, ((-1, 0), (2, 0)))), "alike"),
        (("sender", LONE[1], ((1,),), ("symbols", 1, ((1, 0), (1, 0)))), "twice"),
        (("sender", LONE[1], ((1, 1),), levels(1)), "pattern"),
        (("sender", LONE[1], ((0,),), levels(1)), "ones"),
        (("sender", ("machine", 1, 1, ((1, 1), (1, 1)), (((0,), (1,)),) * 2), ((1,),), levels(1)), "tail"),
    ]

    def test_the_empty_list(self):
        self.assertEqual(fault(check_parts, []), "parts")

    def test_right_parts(self):
        for parts, _, _ in cases(330, 20):
            self.assertIsNone(check_parts(parts))
        self.assertIsNone(check_parts([(SHIFT, LINE)] * 9))

    def test_a_sender_that_is_refused(self):
        for sender, name in self.BAD:
            self.assertEqual(fault(check_sender, sender), name)
            for parts in ([(sender, ONE)], [(LONE, ONE), (sender, ONE)], [(SHIFT, ONE), (LONE, ONE), (sender, ONE)]):
                self.assertEqual(fault(check_parts, parts), name)
        for one, name in self.BAD:
            for other, _ in self.BAD:
                self.assertEqual(fault(check_parts, [(LONE, ONE), (one, ONE), (other, ONE)]), name)

    def test_senders_that_do_not_fit_together(self):
        machine = SHIFT[1]
        twice = ("sender", machine, ((1, 1), (1, 1)), levels(1))
        self.assertEqual(fault(check_parts, [(SHIFT, ONE), (twice, ONE)]), "parts")
        self.assertEqual(fault(check_parts, [(SHIFT, ONE), (LONE, ONE)]), "parts")
        self.assertEqual(fault(check_parts, [(SHIFT, ONE), (SHIFT, LINE), (LONE, ONE)]), "parts")
        self.assertEqual(fault(check_parts, [(LONE, ONE), (SHIFT, ONE), (SHIFT, ONE)]), "parts")
        other = ("sender", shift_machine((7, 6)), ((1, 1),), levels(1))
        self.assertEqual(fault(check_parts, [(SHIFT, ONE), (other, ONE)]), "parts")
        # The bits that are sent, the symbols and the lines may differ.
        beside = ("sender", machine, ((0, 1),), levels(1))
        wide = ("sender", machine, ((1, 1),), square(2))
        self.assertIsNone(check_parts([(SHIFT, ONE), (beside, LINE), (wide, ONE)]))


class Trellises(unittest.TestCase):
    def test_whole(self):
        source = random.Random(331)
        many = []
        for parts, blocks, slow in cases(332, 60):
            heard = [any_samples(source, size) for size in slow.sizes()]
            trellis = repeat_trellis(parts, blocks, heard)
            check_trellis(trellis)
            self.assertEqual(trellis, slow.trellis(heard))
            many.append((len(parts), blocks))
        for parts in (1, 2, 3):
            for blocks in (0, 1, 2):
                self.assertIn((parts, blocks), many)

    def test_the_rooms_of_parts_by_hand(self):
        # The second line reaches back one point: so the rooms behind the first block are two.
        parts = [(LONE, ONE), (LONE, line_of((1, 0), (1, 0)))]
        trellis = repeat_trellis(parts, 1, [[(2, 0)], [(0, 0), None]])
        self.assertEqual(trellis, ("trellis", (1, 2, 1), [[(0, 0, 0, 10), (0, 1, 1, 2)], [(0, 0, 0, 0), (1, 0, 0, 0)]], (0,)))

    def test_samples(self):
        parts = [(SHIFT, LINE), (("sender", SHIFT[1], ((0, 1),), levels(1)), ONE)]
        right = [[(0, 0)] * run_size(sender, line, 2) for sender, line in parts]
        paper = hear_repeats(parts, 2, right)[1]
        wrong = [
            [], right[:1], right + right[:1], [right[1], right[0]], [right[0][1:], right[1]], [right[0], right[1][:-1]],
            [right[0] + [None], right[1]], [right[0], right[1] + [(0, 0)]], [[], []], [right[0][:-1], right[1] + [None]],
        ]
        for heard in wrong:
            self.assertEqual(fault(repeat_trellis, parts, 2, heard), "samples")
            self.assertEqual(fault(hear_repeats, parts, 2, heard), "samples")
            for thing in [paper] + ANY:
                self.assertEqual(fault(check_repeats, parts, 2, heard, thing), "samples")
        self.assertEqual(fault(repeat_trellis, parts, 1, right), "samples")


class Heard(unittest.TestCase):
    def test_by_a_slow_search(self):
        source = random.Random(333)
        kinds = []
        for parts, blocks, slow in cases(334, 60):
            at = source.randrange(len(slow.first.runs))
            for most in (0, 1, 9):
                heard = []
                for part in slow.parts:
                    noise = any_points(source, part.size(), most)
                    gone = [place for place in range(part.size()) if source.random() < 0.3]
                    heard.append(lost(spoiled(part.runs[at][3], noise), gone))
                verdict, paper = hear_repeats(parts, blocks, heard)
                self.assertEqual(verdict, slow.heard(heard))
                self.assertEqual(check_repeats(parts, blocks, heard, paper), verdict)
                self.assertEqual(paper, paper_of(repeat_trellis(parts, blocks, heard)))
                kinds.append(verdict[0] if verdict[-1] is not None else "alone")
        for kind in ("row", "tie", "alone"):
            self.assertGreater(kinds.count(kind), 15)

    def test_one_part_is_heard_as_a_run(self):
        source = random.Random(335)
        for parts, blocks, slow in cases(336, 60):
            sender, line = parts[0]
            samples = any_samples(source, slow.sizes()[0])
            self.assertEqual(hear_repeats(parts[:1], blocks, [samples]), hear_run(sender, line, blocks, samples))

    def test_each_part_tells_what_the_other_one_lost(self):
        parts = [(SHIFT, LINE), (SHIFT, ONE)]
        row = [1, 0, 0, 1, 1, 0]
        heard = [run_samples(sender, line, row) for sender, line in parts]
        half = [lost(heard[0], list(range(0, 9))), lost(heard[1], list(range(9, 17)))]
        for (sender, line), samples in zip(parts, half):
            self.assertEqual(hear_run(sender, line, 6, samples)[0][0], "tie")
        self.assertEqual(hear_repeats(parts, 6, half)[0][:3], ("row", row, 0))
        gone = [[None] * len(samples) for samples in heard]
        self.assertEqual(hear_repeats(parts, 6, gone)[0], ("tie", [0] * 6, [0] * 5 + [1], 0))
        self.assertEqual(hear_repeats(parts, 6, [gone[0], heard[1]])[0], hear_run(SHIFT, ONE, 6, heard[1])[0])

    def test_no_block(self):
        parts = [(HALF, LINE), (HALF, ONE)]
        heard = [[(1, 0)] * run_size(sender, line, 0) for sender, line in parts]
        cost = sum(cost_by_hand(samples, run_samples(sender, line, [])) for (sender, line), samples in zip(parts, heard))
        verdict, paper = hear_repeats(parts, 0, heard)
        self.assertEqual(verdict, ("row", [], cost, None))
        self.assertEqual(check_repeats(parts, 0, heard, paper), verdict)
        self.assertEqual(hear_repeats([(LONE, ONE)], 0, [[]])[0], ("row", [], 0, None))


class Papers(unittest.TestCase):
    def test_things_of_any_kind(self):
        parts = [(HALF, LINE), (HALF, ONE)]
        heard = [[(1, 0)] * run_size(sender, line, 1) for sender, line in parts]
        verdict, paper = hear_repeats(parts, 1, heard)
        for thing in ANY + [list(paper), paper[:-1], paper + (0,)]:
            self.assertIsNone(check_repeats(parts, 1, heard, thing))
        for at in range(3):
            for thing in ANY:
                self.assertIsNone(check_repeats(parts, 1, heard, paper[:at] + (thing,) + paper[at + 1:]))
        self.assertEqual(check_repeats(parts, 1, heard, paper), verdict)
        # The paper of one part is none of both.
        self.assertNotEqual(check_repeats(parts, 1, heard, hear_run(HALF, ONE, 1, heard[1])[1]), verdict)

    def test_changed_papers_show_what_is_true(self):
        source = random.Random(337)
        taken = 0
        for parts, blocks, slow in cases(338, 60):
            heard = [any_samples(source, size) for size in slow.sizes()]
            paper = hear_repeats(parts, blocks, heard)[1]
            row = source.choice(paper[-1])
            at = source.randrange(len(row))
            for item in (None, 0, (row[at] or 0) - 1, (row[at] or 0) + 1):
                row[at] = item
                shown = check_repeats(parts, blocks, heard, paper)
                if shown is not None:
                    right = slow.heard(heard)
                    self.assertEqual(shown[:3], right[:3])
                    if shown[0] == "row" and right[3] is not None:
                        self.assertTrue(0 < shown[3] <= right[3])
                    taken += 1
        self.assertGreater(taken, 30)

    def test_a_tie_of_any_two_nearest_rows(self):
        parts = [(LONE, ONE), (LONE, ONE)]
        heard = [[None, (0, 0)], [(0, 0), None]]
        verdict, paper = hear_repeats(parts, 2, heard)
        self.assertEqual(verdict, ("tie", [0, 0], [0, 1], 2))
        shown = check_repeats(parts, 2, heard, ("tie", [0, 1, 0], [1, 0, 0], paper[3]))
        self.assertEqual(shown, ("tie", [0, 1], [1, 0], 2))
        self.assertIsNone(check_repeats(parts, 2, heard, ("tie", [1, 0, 0], [0, 1, 0], paper[3])))


class Joint(unittest.TestCase):
    def test_all_pairs_of_rows(self):
        greater = 0
        for parts, blocks, slow in cases(339, 60):
            if blocks == 0:
                self.assertIsNone(repeat_distance(parts, blocks))
                continue
            least = min(slow.distances())[0]
            self.assertEqual(repeat_distance(parts, blocks), least)
            alone = [distance(sender, line, blocks) for sender, line in parts]
            self.assertEqual(alone, [min(part.distances())[0] for part in slow.parts])
            self.assertGreaterEqual(least, sum(alone))
            greater += least > sum(alone)
            if len(parts) == 1:
                self.assertEqual(least, alone[0])
            self.assertEqual(best_path(Pairs(parts).trellis(blocks))[1], least)
        self.assertGreater(greater, 3)

    def test_the_trellis_of_pairs_of_parts(self):
        done = 0
        for parts, blocks, slow in cases(340, 40):
            if len(slow.first.runs) <= 8 and len(parts) > 1:
                self.assertEqual(Pairs(parts).trellis(blocks), SlowPairs(parts, blocks).trellis())
                done += 1
        self.assertGreater(done, 8)

    def test_many_blocks(self):
        parts = [(SHIFT, LINE), (("sender", SHIFT[1], ((0, 1),), levels(1)), line_of((2, 0), (1, 0), (0, 1), (1, 0)))]
        self.assertEqual(repeat_distance(parts, 200), repeat_distance(parts, 7))

    def test_noise_below_a_quarter(self):
        source = random.Random(341)
        heard_right = 0
        for parts, blocks, slow in cases(342, 60):
            least = repeat_distance(parts, blocks)
            if not least:
                continue
            row = source.choice(slow.first.rows())
            clear = [run_samples(sender, line, row) for sender, line in parts]
            places = [(part, at) for part, samples in enumerate(clear) for at in range(len(samples))]
            size = 0
            while 4 * (size + 1) < least:
                part, at = source.choice(places)
                x, y = clear[part][at]
                before = slow.cost(slow.first.rows().index(row), clear)
                clear[part][at] = (x + source.choice((-1, 1)), y)
                size = slow.cost(slow.first.rows().index(row), clear)
                if 4 * size >= least:
                    clear[part][at] = (x, y)
                    size = before
                    break
            verdict, _ = hear_repeats(parts, blocks, clear)
            self.assertEqual(verdict[:3], ("row", row, size))
            heard_right += size > 0
        self.assertGreater(heard_right, 20)


class Kept(unittest.TestCase):
    def test_arguments_stay_and_results_are_new(self):
        source = random.Random(343)
        for parts, blocks, slow in cases(344, 10):
            heard = [any_samples(source, size) for size in slow.sizes()]
            paper = hear_repeats(parts, blocks, heard)[1]
            stands_alone(self, check_parts, parts)
            stands_alone(self, repeat_trellis, parts, blocks, heard)
            stands_alone(self, hear_repeats, parts, blocks, heard)
            stands_alone(self, check_repeats, parts, blocks, heard, paper)
            stands_alone(self, check_repeats, parts, blocks, heard, ["one"])
            stands_alone(self, repeat_distance, parts, blocks)


if __name__ == "__main__":
    unittest.main()
