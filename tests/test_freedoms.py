"""Points 8.1 to 8.3: free distances, papers for all lengths, and rings."""

import random
import unittest

from heardtrue.distances import distance, nearest_pair
from heardtrue.freedoms import check_free, free_distance, free_paper, most_parted, ring
from heardtrue.lines import check_line
from heardtrue.machines import shift_machine
from heardtrue.runs import run_samples
from heardtrue.senders import check_sender
from heardtrue.symbols import levels, square
from slow import HALF, LONE, SHIFT, SlowWays, cost_by_hand
from support import any_line, any_machine, block_bits, fault, line_of, row_in, rows_of, senders, stands_alone

ONE = line_of((1, 0))
LINE = line_of((1, 0), (1, 0))
# Rows that differ in all bits from some place on give the same, but for the ends.
ECHO = ("sender", shift_machine((3, 3)), ((1, 1),), levels(1))
# The bits are told only from the state 1 on, to which a 1 leads; a pair that parts in the state 0 is farther apart.
LATE = ("sender", ("machine", 1, 2, ((0, 1), (1, 0)), (((0, 0), (1, 1)), ((0, 0), (0, 1)))), ((1, 1),), levels(1))
ANY = [None, True, False, 0, 1, "", "always", [], (), {}, [0], ("always",), ("always", [0], [1]), 1.0, b"always"]


def ways(seed, many, most_bits=2, most_states=3, most_taps=3):
    """Senders with lines of 1 to some taps, and their slow ways, as far as there are few rooms."""
    source = random.Random(seed)
    found = []
    for at, sender in enumerate(senders(seed + 1, many, most_bits, most_states)):
        taps = at % most_taps + 1
        if 2 ** (sender[3][1] * (taps - 1)) <= 16:
            line = any_line(source, taps, 2)
            found.append((sender, line, SlowWays(sender, line)))
    return found


def squared(sender, line, row, other):
    return cost_by_hand(run_samples(sender, line, row), run_samples(sender, line, other))


class Free(unittest.TestCase):
    def test_by_hand(self):
        self.assertEqual(free_distance(SHIFT, ONE), 20)
        self.assertEqual(free_distance(LONE, ONE), 4)
        self.assertEqual(free_distance(LONE, LINE), 8)
        self.assertEqual(free_distance(LONE, line_of((1, 0), (0, 0), (0, 0), (0, 2))), 20)
        self.assertEqual(free_distance(("sender", shift_machine((19, 29)), ((1, 1),), levels(1)), ONE), 28)
        # The two bits of the first step and those of the last one differ; they are 2 apart.
        self.assertEqual(free_distance(ECHO, ONE), 16)

    def test_rows_that_become_the_same(self):
        deaf = ("sender", ("machine", 2, 1, ((0,) * 4,), (((0,), (1,), (1,), (0,)),)), ((1,),), levels(1))
        self.assertEqual(free_distance(deaf, LINE), 0)
        self.assertEqual(check_free(deaf, LINE, free_paper(deaf, LINE)), 0)

    def test_rows_that_part_in_other_states_are_nearer(self):
        self.assertEqual(distance(LATE, ONE, 1), 12)
        self.assertEqual(free_distance(LATE, ONE), min(distance(LATE, ONE, blocks) for blocks in range(1, 6)))
        self.assertLess(free_distance(LATE, ONE), distance(LATE, ONE, 1))

    def test_by_a_slow_search(self):
        bits, taps, far = set(), set(), 0
        for sender, line, slow in ways(130, 60):
            free, _ = slow.free()
            self.assertEqual(free_distance(sender, line), free)
            told = [distance(sender, line, blocks) for blocks in range(1, 6)]
            self.assertGreaterEqual(min(told), free)
            far += told[0] > free
            bits.add(sender[1][1])
            taps.add(len(line[1]))
        self.assertTrue(bits == {1, 2} and taps == {1, 2, 3} and far > 10, far)

    def test_it_is_that_of_some_number_of_blocks(self):
        for sender, line, _ in ways(132, 40):
            told = [distance(sender, line, blocks) for blocks in range(1, 12)]
            self.assertEqual(min(told), free_distance(sender, line))


class Papers(unittest.TestCase):
    def test_by_hand(self):
        paper = free_paper(LONE, LINE)
        self.assertEqual(paper, ("always", [0], [1], [((0, 0, (((-2, 0),),), True), 4), ((0, 0, (((2, 0),),), True), 4)]))
        self.assertEqual(free_paper(LONE, ONE), ("always", [0], [1], []))
        self.assertEqual(check_free(LONE, ONE, ("always", [0], [1], [])), 4)

    def test_whole_and_taken(self):
        many = 0
        for sender, line, slow in ways(134, 100):
            free, table = slow.free()
            blocks = 1
            while distance(sender, line, blocks) != free:
                blocks += 1
            _, row, other = nearest_pair(sender, line, blocks)
            paper = free_paper(sender, line)
            self.assertEqual(paper, ("always", row, other, sorted(table.items())))
            self.assertEqual(paper[3], sorted(paper[3]))
            self.assertEqual(check_free(sender, line, paper), free)
            many += blocks > 1 and len(table) > 2
        self.assertGreater(many, 10)

    def test_rows(self):
        _, row, other, table = free_paper(SHIFT, ONE)
        self.assertEqual((row, other), ([0], [1]))
        for one, two in (([0, 0], [0, 1]), ([1, 0], [1, 1]), ([0] * 5, [0, 1] + [0] * 3), ([1], [1]), ([0, 0], [1, 1])):
            far = squared(SHIFT, ONE, one, two)
            self.assertEqual(check_free(SHIFT, ONE, ("always", one, two, table)), 20 if far == 20 and one < two else None)
        for one, two in (([], []), ([1], [0]), ([0], [0, 1]), ([0], [2]), ([False], [1]), ([0], [True]), ((0,), (1,)),
                         ([0], (1,)), (None, [1]), ([0], None), ([0, 0], [1]), ([], [1]), ("0", "1")):
            self.assertIsNone(check_free(SHIFT, ONE, ("always", one, two, table)), (one, two))
        # Half a block is none.
        table = free_paper(HALF, ONE)[3]
        self.assertIsNone(check_free(HALF, ONE, ("always", [0], [1], table)))
        self.assertIsNone(check_free(HALF, ONE, ("always", [0, 0, 0], [0, 0, 1], table)))

    def test_the_table(self):
        name, row, other, table = free_paper(SHIFT, LINE)
        free = check_free(SHIFT, LINE, (name, row, other, table))
        self.assertGreater(len(table), 3)

        def shown(changed):
            return check_free(SHIFT, LINE, (name, row, other, changed))

        self.assertEqual(shown(table[::-1]), free)
        for at, (room, worth) in enumerate(table):
            ahead, behind = table[:at], table[at + 1:]
            self.assertIsNone(shown(ahead + behind))
            self.assertIsNone(shown(ahead + [(room, worth + 1)] + behind))
            self.assertIsNone(shown(table + [(room, worth)]))
            self.assertIsNone(shown(table + [(room, worth - 1)]))
            self.assertIsNone(shown(ahead + [[room, worth]] + behind))
            self.assertIsNone(shown(ahead + [(list(room), worth)] + behind))
            self.assertIsNone(shown(ahead + [(room, None)] + behind))
            self.assertIsNone(shown(ahead + [(room, True)] + behind))
            self.assertIsNone(shown(ahead + [(room, float(worth))] + behind))
            self.assertIsNone(shown(ahead + [(room, worth, 0)] + behind))
            state, beside, ((last,),), _ = room
            for wrong in ((state, beside, ((last,),), 1), (state, beside, ((last,),), False), (state, beside, ((last,),)),
                          (state, beside, [(last,)], True), (state, beside, ([last],), True),
                          (state, beside, ((list(last),),), True), (state, beside, (last,), True),
                          (float(state), beside, ((last,),), True), (state, beside, ((last, last),), True),
                          (state, beside, ((last,), (last,)), True), (state, beside, ((last + (0,),),), True),
                          (4, beside, ((last,),), True), (-1, beside, ((last,),), True), (state, 4, ((last,),), True),
                          (state, -1, ((last,),), True), None, 0, "room"):
                self.assertIsNone(shown(ahead + [(wrong, worth)] + behind), wrong)
                self.assertIsNone(shown(table + [(wrong, worth)]), wrong)
        for thing in ANY:
            if thing != []:
                self.assertIsNone(shown(thing))
            self.assertIsNone(shown(table + [thing]))
        self.assertIsNone(shown(tuple(table)))
        self.assertIsNone(shown([]))

    def test_true_is_no_number(self):
        name, row, other, table = free_paper(ECHO, ONE)
        self.assertEqual(table, [((0, 1, ((),), True), 8), ((1, 0, ((),), True), 8)][:len(table)])
        for state, beside in ((0, 1), (1, 0)):
            wrong = [((bool(one), two, lasts, True), worth) for (one, two, lasts, _), worth in table]
            self.assertIsNone(check_free(ECHO, ONE, (name, row, other, wrong)))
        wrong = [((0, True, ((),), True), 8)] + table[1:]
        self.assertIsNone(check_free(ECHO, ONE, (name, row, other, wrong)))
        last = ((0, 0, (((-2, False),),), True), 4)
        _, row, other, table = free_paper(LONE, LINE)
        self.assertIsNone(check_free(LONE, LINE, ("always", row, other, [last] + table[1:])))

    def test_more_rooms_do_not_matter(self):
        _, row, other, table = free_paper(LONE, LINE)
        for worth in (-5, 0, 99):
            for room in ((0, 0, (((77, -5),),), True), (0, 0, (((0, 0),),), True)):
                self.assertEqual(check_free(LONE, LINE, ("always", row, other, table + [(room, worth)])), 8)
                self.assertEqual(check_free(LONE, LINE, ("always", row, other, [(room, worth)] + table)), 8)

    def test_lower_integers(self):
        _, row, other, table = free_paper(LONE, LINE)
        low, high = table[0][0], table[1][0]
        for worth in range(-3, 5):
            told = check_free(LONE, LINE, ("always", row, other, [(low, worth), (high, min(8, worth))]))
            self.assertEqual(told, 8 if worth >= 4 else None)
        # What is too low at a room from which no short way leads together is right all the same.
        self.assertEqual(check_free(LONE, LINE, ("always", row, other, [(low, 4), (high, 4)])), 8)
        self.assertIsNone(check_free(LONE, LINE, ("always", row, other, [(low, 4), (high, 3)])))

    def test_changed_ones_are_taken_exactly_if_they_are_right(self):
        source = random.Random(136)
        taken = refused = 0
        for sender, line, slow in ways(137, 40):
            for _ in range(8):
                name, row, other, table = free_paper(sender, line)
                for _ in range(source.randint(0, 2)):
                    if table:
                        at = source.randrange(len(table))
                        room, worth = table[at]
                        table[at] = (room, worth + source.randint(-6, 1))
                if source.random() < 0.2 and table:
                    table.pop(source.randrange(len(table)))
                if source.random() < 0.4:
                    row, other = sorted(source.sample(rows_of(sender, source.randint(1, 2)), 2))
                far = squared(sender, line, row, other)
                right = slow.bears(far, dict(table))
                shown = check_free(sender, line, (name, row, other, table))
                self.assertEqual(shown, far if right else None)
                if right:
                    self.assertEqual(far, slow.free()[0])
                taken += right
                refused += not right
        self.assertTrue(taken > 80 and refused > 80, (taken, refused))

    def test_things_of_any_kind(self):
        paper = free_paper(HALF, LINE)
        self.assertEqual(check_free(HALF, LINE, paper), free_distance(HALF, LINE))
        for thing in ANY + [list(paper), paper[:3], paper + (0,), ("alway",) + paper[1:]]:
            self.assertIsNone(check_free(HALF, LINE, thing), thing)
        for at in range(4):
            for thing in ANY:
                wrong = paper[:at] + (thing,) + paper[at + 1:]
                if wrong != paper:
                    self.assertIsNone(check_free(HALF, LINE, wrong), wrong)


class Rings(unittest.TestCase):
    def test_by_hand(self):
        self.assertIsNone(ring(SHIFT, ONE))
        self.assertIsNone(ring(LONE, ONE))
        self.assertEqual(ring(ECHO, ONE), ("ring", [0], [1], [0], [1]))
        # What comes out for 1 -1 1 -1 .. is silence but for the ends: 0 1 0 1 and 1 0 1 0 stay near.
        self.assertEqual(ring(LONE, LINE), ("ring", [0], [1], [1, 0], [0, 1]))

    def test_by_a_slow_search(self):
        rings = 0
        for sender, line, slow in ways(138, 60) + self.slow_ones():
            told, wanted = ring(sender, line), slow.ring()
            if wanted is None:
                self.assertIsNone(told)
                continue
            rings += 1
            bits = block_bits(sender)
            sides = [row_in(sender, [label >> bits for label in way]) for way in wanted]
            others = [row_in(sender, [label % 2 ** bits for label in way]) for way in wanted]
            self.assertEqual(told, ("ring", sides[0], others[0], sides[1], others[1]))
            _, row, other, more, beside = told
            far = squared(sender, line, row, other)
            for turns in range(4):
                self.assertEqual(squared(sender, line, row + more * turns, other + beside * turns), far)
        self.assertGreater(rings, 15)

    def slow_ones(self):
        found = []
        for polys in ((3, 3), (3,), (5, 5), (6, 3), (2,), (1,), (7, 7), (3, 5)):
            for taps in ((((1, 0),),), (((1, 0), (1, 0)),), (((1, 0), (0, 0), (1, 0)),), (((1, 0), (0, 1)),)):
                sender = ("sender", shift_machine(polys), ((1,) * len(polys),), levels(1))
                self.assertIsNone(fault(check_sender, sender))
                line = ("line", *taps)
                check_line(line)
                found.append((sender, line, SlowWays(sender, line)))
        return found


class Parted(unittest.TestCase):
    def test_by_hand(self):
        self.assertEqual([most_parted(SHIFT, ONE, cost) for cost in (-1, 0, 4, 7, 8, 11, 12)], [0, 0, 0, 0, 1, 1, 3])
        # They are together again at once, whatever they may cost.
        self.assertEqual([most_parted(LONE, ONE, cost) for cost in (-1, 0, 4, 400)], [0, 0, 0, 0])

    def test_by_a_slow_search(self):
        source = random.Random(141)
        told = set()
        for sender, line, slow in ways(142, 60):
            if slow.ring() is not None:
                continue
            step = min([spent for _, spent in slow.partings()])
            for cost in (-3, -1, 0, 1, step - 1, step, step + 1, source.randint(0, 40), slow.free()[0]):
                blocks = most_parted(sender, line, cost)
                self.assertEqual(blocks, slow.most_parted(cost))
                told.add(blocks)
        self.assertLessEqual({0, 1, 2, 3}, told)

    def test_of_several_ways_to_a_room_the_nearest_counts(self):
        for polys in ((7, 5), (15, 13), (7, 6), (7, 2), (3, 1)):
            for line in (ONE, LINE, line_of((2, 0), (1, 0))):
                sender = ("sender", shift_machine(polys), ((1, 1),), levels(1))
                slow = SlowWays(sender, line)
                self.assertIsNone(slow.ring())
                for cost in range(0, 60, 4):
                    self.assertEqual(most_parted(sender, line, cost), slow.most_parted(cost))


class Large(unittest.TestCase):
    def test_many_states_and_wide_blocks(self):
        source = random.Random(143)
        sixteen = ("sender", shift_machine((19, 29)), ((1, 1),), levels(2))
        wide = ("sender", any_machine(source, 2, 4, 2), ((1, 1, 1, 1),), square(4))
        rows = ("sender", shift_machine((7, 5)), ((1, 1), (1, 0), (0, 1), (1, 1)), levels(1))
        for sender, line in ((sixteen, line_of((2, 0), (1, 1))), (wide, LINE), (rows, line_of((1, 0), (0, 1), (1, 0)))):
            check_sender(sender)
            free = free_distance(sender, line)
            self.assertEqual(check_free(sender, line, free_paper(sender, line)), free)
            self.assertLessEqual(free, distance(sender, line, 2))


class Kept(unittest.TestCase):
    def test_arguments_stay_and_results_are_new(self):
        for sender, line, slow in ways(144, 10):
            stands_alone(self, free_distance, sender, line)
            stands_alone(self, free_paper, sender, line)
            stands_alone(self, check_free, sender, line, free_paper(sender, line))
            stands_alone(self, check_free, sender, line, ["always", [0], [1], []])
            stands_alone(self, ring, sender, line)
            if slow.ring() is None:
                stands_alone(self, most_parted, sender, line, 9)
        stands_alone(self, ring, ECHO, ONE)


if __name__ == "__main__":
    unittest.main()
