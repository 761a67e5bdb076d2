"""Chapter 4: senders."""

import unittest

from heardtrue.machines import shift_machine
from heardtrue.senders import (
    block, blocks_of, check_sender, labels_in, points_for, sizes, tail, tied, walked, ways_home,
)
from heardtrue.symbols import levels, square
from support import (
    bits_in, block_bits, block_by_hand, fault, label_lists, number_in, rows_of, senders, stands_alone, state_behind,
    tail_by_hand, ways_by_hand,
)

SHIFT = shift_machine((7, 5))
PLAIN = ("sender", SHIFT, ((1, 1), (0, 1)), levels(1))
# A machine that takes 2 bits in a step, keeps the lower one, and gives both and the kept one.
TWO = (
    "machine", 2, 3, ((0, 1, 0, 1), (0, 1, 0, 1)),
    (((0, 0, 0), (0, 1, 0), (1, 0, 0), (1, 1, 0)), ((0, 0, 1), (0, 1, 1), (1, 0, 1), (1, 1, 1))),
)
ONE_STATE = ("machine", 1, 2, ((0, 0),), (((0, 0), (1, 1)),))
RING = ("machine", 1, 1, ((1, 1), (0, 0)), (((0,), (1,)), ((0,), (1,))))


def chain(states):
    """A machine that needs as many steps back as it has states, less 1; the choice 0 goes down, 1 stays at the top."""
    nexts = tuple((max(state - 1, 0), states - 1 if state in (0, states - 1) else state - 1) for state in range(states))
    return ("machine", 1, 1, nexts, (((0,), (1,)),) * states)


def ring_with_stay(place):
    """A machine that goes around 16 states, and can stay at one place by the choice 1.

    Behind this place it has to go around to it again, to wait there: so the way to 0 has 15 + 16 - place steps.
    """
    nexts = [((state + 1) % 16, (state + 1) % 16) for state in range(16)]
    nexts[place] = ((place + 1) % 16, place)
    return ("machine", 1, 1, tuple(nexts), (((0,), (1,)),) * 16)


class Sizes(unittest.TestCase):
    def test_bits_and_points_of_a_block(self):
        self.assertEqual(sizes(PLAIN), (2, 3))
        self.assertEqual(sizes(("sender", SHIFT, ((1, 1),), levels(1))), (1, 2))
        self.assertEqual(sizes(("sender", SHIFT, ((1, 1),), square(2))), (1, 1))
        self.assertEqual(sizes(("sender", SHIFT, ((1, 1), (0, 0), (1, 0)), levels(3))), (3, 1))
        self.assertEqual(sizes(("sender", SHIFT, ((1, 1),) * 4, square(4))), (4, 2))
        self.assertEqual(sizes(("sender", TWO, ((1, 0, 1), (0, 0, 1), (0, 0, 0), (1, 1, 1)), square(2))), (8, 3))
        self.assertEqual(sizes(("sender", ONE_STATE, ((0, 0), (0, 1)), levels(1))), (2, 1))


class Blocks(unittest.TestCase):
    def test_of_a_shift_register_by_hand(self):
        # From the state 2 (a one before), the choices 1 and 0 give 1 xor 1, 1 and then 0 xor 1 xor 1, 1 of (7, 5).
        self.assertEqual(block(PLAIN, 2, 2), (1, ((-1, 0), (1, 0), (1, 0))))
        self.assertEqual(block(PLAIN, 0, 0), (0, ((-1, 0), (-1, 0), (-1, 0))))

    def test_of_two_bits_in_a_step(self):
        sender = ("sender", TWO, ((1, 0, 1), (0, 1, 1)), square(2))
        # 11 and 10 from the state 1: the bits 1 1 1 and 1 0 1, of which 1 . 1 and . 0 1 are sent.
        self.assertEqual(block(sender, 1, 14), (0, ((1, 1), (-1, 1))))
        # 01 and 11 from the state 0: 0 1 0 and 1 1 1.
        self.assertEqual(block(sender, 0, 7), (1, ((-1, -1), (1, 1))))

    def test_the_pattern_may_have_zeros_alone_in_a_row(self):
        sender = ("sender", SHIFT, ((0, 0), (1, 1), (0, 0), (0, 0)), square(2))
        for state in range(4):
            for label in range(16):
                self.assertEqual(len(block(sender, state, label)[1]), 1)
                self.assertEqual(block(sender, state, label)[0], state_behind(sender, state, [label]))

    def test_each_block_of_many_senders(self):
        told = set()
        for sender in senders(41, 80, 6, 5):
            told.add((sender[1][1], len(sender[2]), sender[3][1]))
            bits, points = sizes(sender)
            self.assertEqual((bits, points), (block_bits(sender), sum(map(sum, sender[2])) // sender[3][1]))
            kept = blocks_of(sender)
            self.assertEqual(kept[:2], ("blocks", bits))
            self.assertEqual((len(kept), len(kept[2]), len(kept[3])), (4, len(sender[1][3]), len(sender[1][3])))
            for state in range(len(sender[1][3])):
                self.assertEqual((len(kept[2][state]), len(kept[3][state])), (2 ** bits, 2 ** bits))
                for label in range(2 ** bits):
                    after, sent = block_by_hand(sender, state, label)
                    self.assertEqual(block(sender, state, label), (after, tuple(sent)))
                    self.assertEqual((kept[2][state][label], kept[3][state][label]), (after, tuple(sent)))
                    self.assertEqual(len(sent), points)
        self.assertEqual({k for k, _, _ in told}, {1, 2})
        self.assertEqual({rows for _, rows, _ in told}, {1, 2, 3, 4})
        self.assertEqual({b for _, _, b in told}, {1, 2, 3, 4})

    def test_blocks_of_are_tuples(self):
        for thing in blocks_of(PLAIN)[2:]:
            self.assertIsInstance(thing, tuple)
            self.assertEqual({type(row) for row in thing}, {tuple})
        self.assertEqual({type(points) for row in blocks_of(PLAIN)[3] for points in row}, {tuple})


class Checked(unittest.TestCase):
    def test_right_senders(self):
        self.assertIsNone(check_sender(PLAIN))
        self.assertIsNone(check_sender(("sender", ONE_STATE, ((1, 1),), square(2))))
        self.assertIsNone(check_sender(("sender", TWO, ((1, 1, 1),) * 4, square(4))))
        for sender in senders(42, 20):
            self.assertIsNone(check_sender(sender))

    def test_machine(self):
        for thing in (None, 3, (), ("machine",), SHIFT[:4], ("machine", 1, 2, SHIFT[3], SHIFT[4][:3])):
            self.assertEqual(fault(check_sender, ("sender", thing, ((1, 1),), levels(1))), "machine", thing)

    def test_symbols(self):
        wrong = {
            "bits": ("symbols", 5, levels(4)[2]),
            "many": ("symbols", 1, ((1, 0),)),
            "point": ("symbols", 1, ((1, 0), (1001, 0))),
            "alike": ("symbols", 1, ((1, 0), (2, 0))),
            "twice": ("symbols", 1, ((1, 0), (1, 0))),
        }
        for name, symbols in wrong.items():
            self.assertEqual(fault(check_sender, ("sender", SHIFT, ((1, 1),), symbols)), name)

    def test_pattern(self):
        for pattern in (
            (), ((1, 1),) * 5, ((1,),), ((1, 1, 0),), ((1, 1), (1,)), ((1, 1), ()), ((),),
            [(1, 1)], ((1, 2),), ((1, -1),), ((1, True),), ([1, 1],),
        ):
            self.assertEqual(fault(check_sender, ("sender", SHIFT, pattern, levels(1))), "pattern", pattern)

    def test_ones(self):
        for pattern, bits in (
            (((0, 0),), 1), (((0, 0), (0, 0)), 2), (((1, 0),), 2), (((1, 1), (0, 1)), 2), (((1, 1),), 3),
            (((1, 1), (1, 1)), 3), (((1, 1),), 4), (((1, 1), (1, 0)), 4),
        ):
            self.assertEqual(fault(check_sender, ("sender", SHIFT, pattern, levels(bits))), "ones", pattern)

    def test_tail(self):
        self.assertEqual(fault(check_sender, ("sender", RING, ((1,),), levels(1))), "tail")
        stuck = ("machine", 1, 1, ((0, 1), (1, 1)), (((0,), (1,)),) * 2)
        self.assertEqual(fault(check_sender, ("sender", stuck, ((1,),), levels(1))), "tail")
        # A state that is not reached counts, too.
        aside = ("machine", 1, 1, ((0, 0), (1, 1)), (((0,), (1,)),) * 2)
        self.assertEqual(fault(check_sender, ("sender", aside, ((1,),), levels(1))), "tail")

    def test_of_several_faults_the_first_one(self):
        machine, symbols, pattern = None, ("symbols", 0, ()), ()
        self.assertEqual(fault(check_sender, ("sender", machine, pattern, symbols)), "machine")
        self.assertEqual(fault(check_sender, ("sender", machine, ((1, 1),), symbols)), "machine")
        self.assertEqual(fault(check_sender, ("sender", machine, pattern, levels(1))), "machine")
        self.assertEqual(fault(check_sender, ("sender", SHIFT, pattern, symbols)), "bits")
        self.assertEqual(fault(check_sender, ("sender", SHIFT, ((0, 0),), ("symbols", 1, ()))), "many")
        self.assertEqual(fault(check_sender, ("sender", RING, ((1, 1),), ("symbols", 1, ((0, 0), (0, 0))))), "twice")
        self.assertEqual(fault(check_sender, ("sender", RING, ((0, 0),), levels(1))), "pattern")
        self.assertEqual(fault(check_sender, ("sender", SHIFT, ((0, 0, 0),), levels(1))), "pattern")
        self.assertEqual(fault(check_sender, ("sender", RING, ((0,),), levels(1))), "ones")
        self.assertEqual(fault(check_sender, ("sender", RING, ((1,),), levels(2))), "ones")


class Tails(unittest.TestCase):
    def test_no_block(self):
        sender = ("sender", ONE_STATE, ((1, 1),), levels(1))
        self.assertEqual(tail(sender), (0, {0: []}))
        self.assertEqual(tied(sender, [1, 0]), [1, 0])
        self.assertEqual(tied(sender, []), [])

    def test_of_shift_registers(self):
        self.assertEqual(tail(PLAIN), (1, {0: [0], 1: [0], 2: [0], 3: [0]}))
        self.assertEqual(tail(("sender", SHIFT, ((1, 1),), levels(1)))[0], 2)
        self.assertEqual(tail(("sender", shift_machine((31, 16)), ((1, 1),), levels(1)))[0], 4)
        self.assertEqual(tail(("sender", shift_machine((31, 16)), ((1, 1),) * 3, levels(1)))[0], 2)

    def test_a_chain_of_states(self):
        blocks, ways = tail(("sender", chain(16), ((1,),), levels(1)))
        self.assertEqual((blocks, ways[15], ways[0]), (15, [0] * 15, [0] * 15))
        self.assertEqual(tail(("sender", chain(16), ((1,), (0,)), levels(1)))[0], 8)

    def test_just_sixteen_blocks_and_more(self):
        for stay, steps in ((15, 16), (14, 17), (13, 18), (1, 30)):
            machine = ring_with_stay(stay)
            for rows in range(1, 5):
                sender = ("sender", machine, ((1,),) * rows, levels(1))
                blocks = -(-steps // rows)
                self.assertEqual(fault(tail, sender), None if blocks <= 16 else "tail")
                self.assertEqual(fault(check_sender, sender), None if blocks <= 16 else "tail")
                self.assertEqual(fault(tied, sender, [0] * rows), None if blocks <= 16 else "tail")
                if blocks <= 16:
                    self.assertEqual(tail(sender)[0], blocks)
                    self.assertEqual(state_behind(sender, 0, tail(sender)[1][0]), 0)

    def test_none(self):
        self.assertEqual(fault(tail, ("sender", RING, ((1,),), levels(1))), "tail")
        # In two steps each state leads back to itself, and never all to 0.
        self.assertEqual(fault(tail, ("sender", RING, ((1,), (1,)), levels(1))), "tail")

    def test_least_labels_of_many_senders(self):
        several = 0
        for sender in senders(43, 60, 3, 4):
            if tail(sender)[0] * block_bits(sender) > 8:
                continue
            told = tail(sender)
            self.assertEqual(told, tail_by_hand(sender))
            self.assertEqual(list(told[1]), list(range(len(sender[1][3]))))
            several += told[0] >= 2
            for blocks in range(8 // block_bits(sender)):
                self.assertEqual(ways_home(sender, blocks), ways_by_hand(sender, blocks))
        self.assertGreater(several, 3)

    def test_the_least_list_is_not_that_of_zeros(self):
        # The choice 0 leads from the state 1 to 1, and 1 to 0.
        machine = ("machine", 1, 1, ((0, 1), (1, 0)), (((0,), (1,)),) * 2)
        sender = ("sender", machine, ((1,), (1,)), levels(1))
        self.assertEqual(tail(sender), (1, {0: [0], 1: [1]}))
        self.assertEqual(tied(sender, [0, 1]), [0, 1, 0, 1])
        self.assertEqual(ways_home(sender, 2), {0: [0, 0], 1: [0, 1]})
        self.assertEqual(ways_home(sender, 0), {0: []})


class Rows(unittest.TestCase):
    def test_labels(self):
        self.assertEqual(labels_in(PLAIN, []), [])
        self.assertEqual(labels_in(PLAIN, [1, 0, 0, 1]), [2, 1])
        self.assertEqual(labels_in(("sender", TWO, ((1, 1, 1), (0, 0, 0)), levels(3)), [1, 1, 0, 1]), [13])

    def test_the_empty_row(self):
        self.assertEqual(points_for(PLAIN, []), [])
        self.assertEqual(tied(PLAIN, []), [0, 0])
        self.assertEqual(walked(PLAIN, []), (0, []))

    def test_row(self):
        for row in ([1], [1, 0, 1], [0] * 7):
            for function in (labels_in, tied, points_for):
                self.assertEqual(fault(function, PLAIN, row), "row", row)
        wide = ("sender", TWO, ((1, 1, 1),) * 2, levels(1))
        for many in (1, 2, 3, 5, 6, 7):
            self.assertEqual(fault(labels_in, wide, [0] * many), "row")
            self.assertEqual(fault(tied, wide, [0] * many), "row")
            self.assertEqual(fault(points_for, wide, [0] * many), "row")

    def test_of_many_senders(self):
        for sender in senders(44, 25, 3, 4):
            bits = block_bits(sender)
            for blocks in range(3):
                for labels, row in zip(label_lists(sender, blocks), rows_of(sender, blocks)):
                    self.assertEqual(labels_in(sender, row), labels)
                    state, points = 0, []
                    for label in labels:
                        state, sent = block_by_hand(sender, state, label)
                        points += sent
                    self.assertEqual(walked(sender, labels), (state, points))
                    self.assertEqual(points_for(sender, row), points)
                    whole = tied(sender, row)
                    self.assertEqual(whole[:len(row)], row)
                    self.assertEqual((len(whole) - len(row)) // bits, tail(sender)[0])
                    self.assertEqual([bit for label in tail(sender)[1][state] for bit in bits_in(label, bits)],
                                     whole[len(row):])
                    ends = [number_in(whole[at:at + bits]) for at in range(0, len(whole), bits)]
                    self.assertEqual(state_behind(sender, 0, ends), 0)


class Kept(unittest.TestCase):
    def test_arguments_stay_and_results_are_new(self):
        lone = ("sender", ONE_STATE, ((1, 1),), levels(1))
        for sender in (PLAIN, lone, ("sender", TWO, ((1, 1, 1),), levels(3))):
            row = [1, 0] * sizes(sender)[0]
            stands_alone(self, check_sender, sender)
            stands_alone(self, sizes, sender)
            stands_alone(self, block, sender, 0, 1)
            stands_alone(self, blocks_of, sender)
            stands_alone(self, tail, sender)
            stands_alone(self, ways_home, sender, 2)
            stands_alone(self, ways_home, sender, 0)
            for part in (row, []):
                stands_alone(self, labels_in, sender, part)
                stands_alone(self, tied, sender, part)
                stands_alone(self, points_for, sender, part)
            stands_alone(self, walked, sender, [1, 0])
            stands_alone(self, walked, sender, [])


if __name__ == "__main__":
    unittest.main()
