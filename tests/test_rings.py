"""Points 23.5 to 23.8: rings."""

import copy
import random
import unittest
from itertools import product

from heardtrue.lines import spoiled
from heardtrue.machines import shift_machine
from heardtrue.potentials import are_right, potentials_of
from heardtrue.rings import check_ring, hear_ring, ring_samples, ring_trellis
from heardtrue.symbols import levels
from heardtrue.trellises import apart, check_trellis
from slow import HALF, LONE, SHIFT, any_samples, cost_by_hand
from support import (
    any_line, any_points, block_bits, block_by_hand, changeable, fault, line_of, row_in, senders, smeared_by_hand,
    stands_alone,
)

ONE, LINE = line_of((1, 0)), line_of((1, 0), (1, 0))
SENDER = ("sender", shift_machine((3, 1)), ((1, 1),), levels(1))
# A machine that goes from state to state, round and round: back at each third step alone.
ROUND = ("sender", ("machine", 1, 1, ((1, 1), (2, 0), (0, 0)), (((0,), (1,)), ((1,), (0,)), ((0,), (1,)))), ((1,),), levels(1))
ANY = [
    None, True, False, 0, 1, -1, "", "one", "tie", [], (), {}, [0], ("one",), ("tie",), ["one", 0, [0], []],
    ("one", 0, [0], []), ("one", None, None, None), ("tie", 0, [0], 0, [0], []), 1.0, b"one",
]


class SlowRings:
    """All rings of so many blocks, for each state."""

    def __init__(self, sender, line, blocks):
        self.sender, self.line, self.blocks = sender, line, blocks
        self.states = range(len(sender[1][3]))
        self.many = len(block_by_hand(sender, 0, 0)[1])
        self.walks = {state: self.walks_of(state) for state in self.states}

    def walks_of(self, state):
        """All rows from a state: their labels, states, points and samples."""
        found = []
        for labels in product(range(2 ** block_bits(self.sender)), repeat=self.blocks):
            states, points = [state], []
            for label in labels:
                after, more = block_by_hand(self.sender, states[-1], label)
                states.append(after)
                points += more
            found.append((list(labels), states, points, smeared_by_hand(self.line, points)))
        return found

    def size(self):
        return self.blocks * self.many + len(self.line[1]) - 1

    def rings(self):
        """All rings: state, labels and samples."""
        return [(state, walk[0], walk[3]) for state in self.states for walk in self.walks[state] if walk[1][-1] == state]

    def room(self, walk, time):
        back = len(self.line[1]) - 1
        points = [(0, 0)] * back + walk[2][:time * self.many]
        return (walk[1][time], tuple(points[len(points) - back:]))

    def window(self, samples, time):
        return samples[time * self.many:][:self.many if time < self.blocks else None]

    def trellis(self, samples, state):
        walks = self.walks[state]
        rows = [sorted({self.room(walk, time) for walk in walks}) for time in range(self.blocks + 1)]
        layers = []
        for time in range(self.blocks + 1):
            edges = set()
            for walk in walks:
                here, there, label = rows[time].index(self.room(walk, time)), 0, 0
                if time < self.blocks:
                    there, label = rows[time + 1].index(self.room(walk, time + 1)), walk[0][time]
                elif walk[1][-1] != state:
                    continue
                edges.add((here, there, label, cost_by_hand(self.window(samples, time), self.window(walk[3], time))))
            layers.append(sorted(edges, key=lambda edge: (edge[0], edge[2])))
        return ("trellis", tuple(map(len, rows)) + (1,), layers, (0,))

    def ranked(self, samples):
        """All rings by their costs, states and labels."""
        return sorted((cost_by_hand(samples, made), state, labels) for state, labels, made in self.rings())

    def heard(self, samples):
        """The verdict of point 23.7."""
        ranked = [(spent, state, row_in(self.sender, labels)) for spent, state, labels in self.ranked(samples)]
        if not ranked:
            return None
        spent, state, row = ranked[0]
        if len(ranked) == 1:
            return ("row", state, row, spent, None)
        if ranked[1][0] > spent:
            return ("row", state, row, spent, ranked[1][0] - spent)
        return ("tie", state, row, ranked[1][1], ranked[1][2], spent)


def ring_cases(seed, many):
    source = random.Random(seed)
    found = []
    for at, sender in enumerate([SENDER, ROUND, SHIFT, HALF, LONE] + senders(seed, many, 3, 4)):
        line = any_line(source, at % 4 + 1, 2)
        for blocks in range(1, 4):
            if 2 ** (block_bits(sender) * blocks) <= 64:
                found.append((sender, line, blocks, SlowRings(sender, line, blocks)))
    return found


class Samples(unittest.TestCase):
    def test_by_hand(self):
        self.assertEqual(ring_samples(SENDER, ONE, 1, [0, 1]), [(1, 0), (1, 0), (1, 0), (-1, 0)])
        self.assertEqual(ring_samples(LONE, LINE, 0, [1, 1, 0]), [(1, 0), (2, 0), (0, 0), (-1, 0)])

    def test_all_rows_of_all_states(self):
        both = [0, 0]
        for sender, line, blocks, slow in ring_cases(440, 20):
            for state in slow.states:
                for labels, states, _, made in slow.walks[state]:
                    row = row_in(sender, labels)
                    if states[-1] == state:
                        self.assertEqual(ring_samples(sender, line, state, row), made)
                    else:
                        self.assertEqual(fault(ring_samples, sender, line, state, row), "ring")
                    both[states[-1] == state] += 1
        self.assertGreater(min(both), 100)

    def test_no_block(self):
        for sender in (SENDER, HALF, LONE):
            for state in range(len(sender[1][3])):
                self.assertEqual(fault(ring_samples, sender, LINE, state, []), "ring")

    def test_row(self):
        wide = ("sender", shift_machine((7, 5)), ((1, 1),) * 4, levels(1))
        for sender in (HALF, wide):
            for many in range(1, 9):
                name = fault(ring_samples, sender, LINE, 0, [0] * many)
                self.assertEqual(name, None if many % block_bits(sender) == 0 else "row")
                name = fault(ring_samples, sender, LINE, 0, [1] * many)
                self.assertEqual(name, "ring" if many % block_bits(sender) == 0 else "row")


class Trellises(unittest.TestCase):
    def test_whole(self):
        source = random.Random(441)
        for sender, line, blocks, slow in ring_cases(442, 20):
            samples = any_samples(source, slow.size())
            for state in slow.states:
                trellis = ring_trellis(sender, line, blocks, samples, state)
                check_trellis(trellis)
                self.assertEqual(trellis, slow.trellis(samples, state))

    def test_by_hand(self):
        trellis = ring_trellis(SENDER, ONE, 1, [(1, 0), None], 1)
        # A 0 leads to the state 0, which is no end; a 1 stays, and gives 0 and 1.
        self.assertEqual(trellis, ("trellis", (1, 2, 1), [[(0, 0, 0, 0), (0, 1, 1, 4)], [(1, 0, 0, 0)]], (0,)))

    def test_samples(self):
        for sender in (SENDER, HALF):
            for line in (ONE, LINE):
                for blocks in (1, 2, 3):
                    right = SlowRings(sender, line, blocks).size()
                    paper = hear_ring(sender, line, blocks, [(0, 0)] * right)[1]
                    for many in set(range(right + 4)) - {right}:
                        samples = [(0, 0)] * many
                        self.assertEqual(fault(ring_trellis, sender, line, blocks, samples, 0), "samples")
                        self.assertEqual(fault(hear_ring, sender, line, blocks, samples), "samples")
                        for thing in ANY + [paper]:
                            self.assertEqual(fault(check_ring, sender, line, blocks, samples, thing), "samples")


class Heard(unittest.TestCase):
    def test_by_hand(self):
        self.assertEqual(hear_ring(SENDER, ONE, 2, ring_samples(SENDER, ONE, 1, [0, 1]))[0], ("row", 1, [0, 1], 0, 8))
        # Two states with one row: with a memory that is never sent they give the same samples.
        deaf = ("sender", shift_machine((2, 2)), ((1, 1),), levels(1))
        verdict = hear_ring(deaf, ONE, 1, [(-1, 0), (-1, 0)])[0]
        self.assertEqual(verdict, ("row", 0, [0], 0, 8))
        two = ("sender", ("machine", 1, 1, ((0, 1), (1, 0)), (((0,), (1,)), ((0,), (1,)))), ((1,),), levels(1))
        verdict, paper = hear_ring(two, ONE, 2, [(1, 0), (1, 0)])
        self.assertEqual(verdict, ("tie", 0, [1, 1], 1, [1, 1], 0))
        self.assertEqual(check_ring(two, ONE, 2, [(1, 0), (1, 0)], paper), verdict)

    def test_no_ring(self):
        for blocks in (1, 2, 4):
            slow = SlowRings(ROUND, LINE, blocks)
            rings = slow.rings()
            verdict, paper = hear_ring(ROUND, LINE, blocks, [(1, 0)] * slow.size())
            self.assertEqual([verdict is None, paper is None], [not rings] * 2)
            if not rings:
                for thing in ANY + [("one", 0, [0] * blocks + [0], [[[0]]] * 3)]:
                    self.assertIsNone(check_ring(ROUND, LINE, blocks, [(1, 0)] * slow.size(), thing))
        self.assertEqual(hear_ring(ROUND, ONE, 1, [(0, 0)]), (None, None))

    def test_one_ring_alone(self):
        # From the state 1 a 1 leads back; no other state comes back to itself in one step.
        alone = ("sender", ("machine", 1, 1, ((1, 1), (0, 1)), (((0,), (1,)), ((0,), (1,)))), ((1,),), levels(1))
        verdict, paper = hear_ring(alone, ONE, 1, [(-3, 0)])
        self.assertEqual(verdict, ("row", 1, [1], 16, None))
        self.assertEqual(check_ring(alone, ONE, 1, [(-3, 0)], paper), verdict)

    def test_by_a_slow_search(self):
        source = random.Random(443)
        kinds = []
        for sender, line, blocks, slow in ring_cases(444, 60):
            clear = [made for _, _, made in slow.rings()] or [[(0, 0)] * slow.size()]
            for samples in (any_samples(source, slow.size()), spoiled(source.choice(clear), any_points(source, slow.size(), 1)),
                            source.choice(clear), [None] * slow.size()):
                verdict, paper = hear_ring(sender, line, blocks, samples)
                wanted = slow.heard(samples)
                self.assertEqual(verdict, wanted)
                if wanted is None:
                    self.assertIsNone(paper)
                    kinds.append("none")
                    continue
                self.assertEqual(check_ring(sender, line, blocks, samples, paper), verdict)
                state, labels = slow.ranked(samples)[0][1:]
                trellises = [slow.trellis(samples, at) for at in slow.states]
                if wanted[0] == "row":
                    tables = [potentials_of(apart(told, labels + [0]) if at == state else told) for at, told in enumerate(trellises)]
                    self.assertEqual(paper, ("one", state, labels + [0], tables))
                else:
                    other, others = slow.ranked(samples)[1][1:]
                    tables = [potentials_of(told) for told in trellises]
                    self.assertEqual(paper, ("tie", state, labels + [0], other, others + [0], tables))
                    kinds.append("states" if state != other and labels == others else "rows" if state == other else "tie")
                kinds.append(wanted[0] if wanted[-1] is not None else "alone")
        for kind in ("row", "tie", "none", "states", "rows", "alone"):
            self.assertGreater(kinds.count(kind), 3, kind)


class Papers(unittest.TestCase):
    def is_true(self, slow, samples, shown):
        """What is shown is true; the rings that it tells are nearest ones."""
        costs = {(state, tuple(row_in(slow.sender, labels))): spent for spent, state, labels in slow.ranked(samples)}
        least = min(costs.values())
        ring = (shown[1], tuple(shown[2]))
        self.assertEqual(costs[ring], least)
        if shown[0] == "tie":
            other = (shown[3], tuple(shown[4]))
            self.assertEqual((costs[other], shown[5]), (least, least))
            self.assertLess(ring, other)
        else:
            others = [spent for told, spent in costs.items() if told != ring]
            self.assertEqual(shown[3], least)
            if others:
                self.assertTrue(0 < shown[4] <= min(others) - least)
            else:
                self.assertTrue(shown[4] is None or shown[4] > 0)

    def test_changed_papers_show_what_is_true(self):
        source = random.Random(445)
        taken = 0
        for sender, line, blocks, slow in ring_cases(446, 40):
            samples = any_samples(source, slow.size())
            paper = hear_ring(sender, line, blocks, samples)[1]
            if paper is None:
                continue
            for _ in range(8):
                changed = copy.deepcopy(paper)
                part = source.choice([part for part in changeable(changed) if part])
                at = source.randrange(len(part))
                if not isinstance(part[at], list):
                    part[at] = source.choice((None, 0, 1, (part[at] or 0) - 1, (part[at] or 0) + 1))
                shown = check_ring(sender, line, blocks, samples, changed)
                if shown is not None:
                    self.is_true(slow, samples, shown)
                    taken += 1
        self.assertGreater(taken, 100)

    def test_a_tie_of_any_two_nearest_rings(self):
        samples = [None] * 4
        verdict, paper = hear_ring(SENDER, ONE, 2, samples)
        self.assertEqual(verdict, ("tie", 0, [0, 0], 0, [1, 0], 0))
        rings = [(state, labels + [0]) for state, labels, _ in SlowRings(SENDER, ONE, 2).rings()]
        self.assertEqual(len(rings), 4)
        for one in rings:
            for other in rings:
                shown = check_ring(SENDER, ONE, 2, samples, ("tie", *one, *other, paper[5]))
                wanted = ("tie", one[0], one[1][:2], other[0], other[1][:2], 0) if one < other else None
                self.assertEqual(shown, wanted)

    def test_gaps_that_are_too_small_or_too_great(self):
        samples = ring_samples(SENDER, ONE, 1, [0, 1])
        verdict, paper = hear_ring(SENDER, ONE, 2, samples)
        _, state, labels, tables = paper
        # The room 0 of the last time is the end; behind it stands the one for being on the path still.
        self.assertEqual([table[-1] for table in tables], [[8], [12, 0]])
        for gap in range(-2, 15):
            for other in range(-2, 15):
                told = [tables[0][:-1] + [[gap]], tables[1][:-1] + [[other, 0]]]
                shown = check_ring(SENDER, ONE, 2, samples, ("one", state, labels, told))
                wanted = ("row", 1, [0, 1], 0, min(gap, other)) if 0 < gap <= 8 and 0 < other <= 12 else None
                self.assertEqual(shown, wanted)

    def test_things_of_any_kind(self):
        source = random.Random(447)
        for sender, line, blocks, slow in ring_cases(448, 2):
            for samples in (any_samples(source, slow.size()), [None] * slow.size()):
                verdict, paper = hear_ring(sender, line, blocks, samples)
                if verdict is None:
                    continue
                wrong = ANY + [list(paper), paper[:-1], paper + (0,), ("two",) + paper[1:]]
                for thing in wrong:
                    self.assertIsNone(check_ring(sender, line, blocks, samples, thing))
                for at in range(len(paper)):
                    for thing in ANY:
                        told = paper[:at] + (thing,) + paper[at + 1:]
                        shown = check_ring(sender, line, blocks, samples, told)
                        if shown is not None:
                            self.assertFalse(isinstance(thing, bool))
                            self.is_true(slow, samples, shown)
                tables = paper[-1]
                for told in (tables[:-1], tables + tables[:1], tuple(tables), tables[1:], [None] * len(tables), []):
                    self.assertIsNone(check_ring(sender, line, blocks, samples, paper[:-1] + (told,)))
                for state in (-1, len(slow.states), None, True, "0", 0.0):
                    self.assertIsNone(check_ring(sender, line, blocks, samples, paper[:1] + (state,) + paper[2:]))
                for labels in (paper[2][:-1], paper[2] + [0], tuple(paper[2]), paper[2][:-1] + [1], paper[2][:-1] + [False]):
                    self.assertIsNone(check_ring(sender, line, blocks, samples, paper[:2] + (labels,) + paper[3:]))

    def test_the_tables_are_of_the_trellis_apart_from_the_ring_alone(self):
        samples = ring_samples(SENDER, ONE, 1, [0, 1])
        _, paper = hear_ring(SENDER, ONE, 2, samples)
        plain = [potentials_of(ring_trellis(SENDER, ONE, 2, samples, state)) for state in range(2)]
        others = [potentials_of(apart(ring_trellis(SENDER, ONE, 2, samples, 0), [0, 0, 0])), paper[3][1]]
        self.assertTrue(are_right(ring_trellis(SENDER, ONE, 2, samples, 0), plain[0]))
        for tables in (plain, others, paper[3][::-1]):
            self.assertIsNone(check_ring(SENDER, ONE, 2, samples, paper[:3] + (tables,)))


class Kept(unittest.TestCase):
    def test_arguments_stay_and_results_are_new(self):
        source = random.Random(449)
        for sender, line, blocks, slow in ring_cases(450, 6):
            for samples in (any_samples(source, slow.size()), [None] * slow.size()):
                stands_alone(self, ring_trellis, sender, line, blocks, samples, 0)
                stands_alone(self, hear_ring, sender, line, blocks, samples)
                paper = hear_ring(sender, line, blocks, samples)[1]
                stands_alone(self, check_ring, sender, line, blocks, samples, paper)
                stands_alone(self, check_ring, sender, line, blocks, samples, ["one", 0, [0]])
            for state, labels, _ in slow.rings()[:2]:
                stands_alone(self, ring_samples, sender, line, state, row_in(sender, labels))


if __name__ == "__main__":
    unittest.main()
