"""Points 3.4 to 3.8, each beside a slow search by the words of the document."""

import random
import unittest
from itertools import product

from heardtrue.composing import behind, delay, loses, reached, reduced, unlike
from heardtrue.machines import choices_of, is_machine, run, shift_machine
from support import any_machine, fault, lists_of, machines, stands_alone

LATE = ("machine", 1, 1, ((0, 1), (0, 1)), (((0,), (0,)), ((1,), (1,))))
RING = ("machine", 1, 1, ((1, 2), (1, 1), (2, 2)), (((0,), (0,)), ((0,), (1,)), ((0,), (1,))))


class Behind(unittest.TestCase):
    def fits(self, first, second):
        both = behind(first, second)
        many = len(second[3])
        self.assertTrue(is_machine(both))
        self.assertEqual(both[1:3], (first[1], first[2] // second[1] * second[2]))
        self.assertEqual(len(both[3]), len(first[3]) * many)
        for s, t in product(range(len(first[3])), range(many)):
            for choices in lists_of(first, 2):
                ahead, taken = run(first, s, choices)
                after, given = run(second, t, choices_of(second, taken))
                self.assertEqual(run(both, s * many + t, choices), (ahead * many + after, given))

    def test_all_numbers_of_bits(self):
        source = random.Random(341)
        for k, n, taken, given in product((1, 2), (1, 2, 3, 4), (1, 2), (1, 2, 3, 4)):
            first, second = any_machine(source, k, n, 3), any_machine(source, taken, given, 2)
            if n % taken == 0 and n // taken * given <= 4:
                self.fits(first, second)
            else:
                self.assertEqual(fault(behind, first, second), "behind")

    def test_numbers_of_states(self):
        source = random.Random(342)
        for one, other in product((1, 2, 3, 4, 5, 8, 9, 16), repeat=2):
            first, second = any_machine(source, 1, 2, one), any_machine(source, 2, 2, other)
            if one * other <= 16:
                self.fits(first, second)
            else:
                self.assertEqual(fault(behind, first, second), "behind")

    def test_the_first_one_comes_first(self):
        first, second = shift_machine((1, 1)), shift_machine((3, 1))
        self.assertEqual(behind(first, second)[3], ((0, 1), (0, 1)))
        self.assertEqual(behind(first, second)[4], (((0, 0, 0, 0), (1, 0, 0, 1)), ((1, 1, 0, 0), (0, 1, 0, 1))))
        self.assertEqual(fault(behind, second, shift_machine((7, 5, 1))), "behind")


class Reached(unittest.TestCase):
    def test_the_order_in_which_they_are_found(self):
        machine = ("machine", 1, 1, ((3, 1), (4, 4), (0, 0), (1, 0), (4, 3)), (((0,), (0,)),) * 5)
        self.assertEqual(reached(machine), [0, 3, 1, 4])
        self.assertEqual(reached(shift_machine((31,)))[:5], [0, 8, 4, 12, 2])
        self.assertEqual(reached(("machine", 1, 1, ((0, 0), (0, 0)), (((0,), (0,)),) * 2)), [0])
        self.assertEqual(reached(("machine", 2, 1, ((2, 1, 0, 3),) * 4, (((0,),) * 4,) * 4)), [0, 2, 1, 3])

    def test_by_the_least_ways(self):
        for machine in machines(351, 60, 8):
            order = [0]
            for at in range(len(machine[3])):
                if at < len(order):
                    order += [after for after in dict.fromkeys(machine[3][order[at]]) if after not in order]
            self.assertEqual(reached(machine), order)


def kinds_of(machine, length):
    """For each state what it gives for all rows of choices of a length."""
    return [tuple(tuple(run(machine, state, row)[1]) for row in lists_of(machine, length)) for state in range(len(machine[3]))]


class Reduced(unittest.TestCase):
    def check(self, machine):
        # Two states of so many that give the same bits for as many steps do so for ever.
        kinds = kinds_of(machine, len(machine[3]))
        order = []
        for state in reached(machine):
            if kinds[state] not in order:
                order.append(kinds[state])
        names = [order.index(kind) if kind in order else None for kind in kinds]
        least = reduced(machine)
        self.assertTrue(is_machine(least))
        self.assertEqual(least[1:3], machine[1:3])
        self.assertEqual(len(least[3]), len(order))
        for state in reached(machine):
            self.assertEqual(least[3][names[state]], tuple(names[after] for after in machine[3][state]))
            self.assertEqual(least[4][names[state]], machine[4][state])
        self.assertIsNone(unlike(machine, least))
        self.assertEqual(reduced(least), least)

    def test_by_trying_all(self):
        for machine in machines(352, 120, 5, 1) + machines(353, 30, 3, 2):
            self.check(machine)

    def test_doubled_states(self):
        small = LATE
        twice = ("machine", 1, 1, ((2, 1), (0, 3), (2, 3), (0, 1)), tuple(small[4][state % 2] for state in range(4)))
        self.assertEqual(reduced(twice), small)
        self.check(twice)

    def test_unreached_states(self):
        more = ("machine", 1, 1, LATE[3] + ((2, 0), (1, 2)), LATE[4] + (((1,), (0,)), ((0,), (1,))))
        self.assertEqual(reduced(more), LATE)
        self.check(more)

    def test_states_that_differ_late(self):
        # A chain of states that give 0, but for the last one's, takes all of its steps to be told apart.
        nexts = tuple((min(state + 1, 15), 0) for state in range(16))
        outs = tuple(((1,) if state == 15 else (0,), (0,)) for state in range(16))
        machine = ("machine", 1, 1, nexts, outs)
        self.assertEqual(reduced(machine), machine)
        same = ("machine", 1, 1, nexts, (((0,), (0,)),) * 16)
        self.assertEqual(reduced(same), ("machine", 1, 1, ((0, 0),), (((0,), (0,)),)))

    def test_new_numbers(self):
        machine = ("machine", 1, 1, ((2, 1), (1, 1), (0, 2)), (((0,), (0,)), ((1,), (1,)), ((0,), (1,))))
        wanted = ("machine", 1, 1, ((1, 2), (0, 1), (2, 2)), (((0,), (0,)), ((0,), (1,)), ((1,), (1,))))
        self.assertEqual(reduced(machine), wanted)


class Unlike(unittest.TestCase):
    def by_hand(self, first, second, most):
        for length in range(most + 1):
            for row in lists_of(first, length):
                if run(first, 0, row)[1] != run(second, 0, row)[1]:
                    return row
        return None

    def test_by_trying_all(self):
        source = random.Random(354)
        for _ in range(150):
            k, n, states = source.choice((1, 1, 2)), source.randint(1, 2), source.randint(1, 3)
            first = any_machine(source, k, n, states, 3)
            second = any_machine(source, k, n, states, 3)
            # Machines with so many states in all differ within as many steps, if at all.
            self.assertEqual(unlike(first, second), self.by_hand(first, second, 2 * states))

    def test_alike_ones(self):
        for machine in machines(355, 40, 6):
            self.assertIsNone(unlike(machine, machine))
            self.assertIsNone(unlike(machine, reduced(machine)))

    def test_shortest_and_then_least(self):
        constant = ("machine", 1, 1, ((0, 0),), (((0,), (0,)),))
        self.assertEqual(unlike(constant, shift_machine((1,))), [1])
        self.assertEqual(unlike(constant, LATE), [1, 0])
        self.assertEqual(unlike(shift_machine((3, 1)), shift_machine((2, 1))), [1, 0])
        self.assertEqual(unlike(shift_machine((16,)), shift_machine((17,))), [1, 0, 0, 0, 0])
        self.assertEqual(unlike(shift_machine((1,)), ("machine", 1, 1, ((0, 0),), (((1,), (0,)),))), [0])


def longer(machine, ways):
    """From the least walks to pairs, all of one length, those that are a step longer."""
    found = {}
    for (one, other, parted), walk in ways.items():
        for a, b in product(range(2 ** machine[1]), repeat=2):
            if machine[4][one][a] == machine[4][other][b]:
                pair = (machine[3][one][a], machine[3][other][b], parted or a != b)
                found[pair] = min(found.get(pair, walk + [(a, b)]), walk + [(a, b)])
    return found


def first_walks(machine, begin):
    """The first pair walk of at least one step from a pair to each other one (or back)."""
    ways, first = {begin: []}, {}
    for _ in range(2 * len(machine[3]) ** 2 + 1):
        ways = longer(machine, ways)
        for pair, walk in ways.items():
            first.setdefault(pair, walk)
    return first


def slow_loses(machine):
    walks = first_walks(machine, (0, 0, False))
    met = [(len(walk), walk) for pair, walk in walks.items() if pair[2] and pair[0] == pair[1]]
    if met:
        walk = min(met)[1]
        return ("merge", [a for a, _ in walk], [b for _, b in walk])
    rings = []
    for pair, walk in walks.items():
        back = first_walks(machine, pair).get(pair) if pair[2] else None
        if back is not None:
            rings.append((len(walk), walk, back))
    if not rings:
        return None
    _, walk, back = min(rings)
    return ("ring", [a for a, _ in walk], [b for _, b in walk], [a for a, _ in back], [b for _, b in back])


class Loses(unittest.TestCase):
    def test_by_the_words_of_the_document(self):
        kinds = {}
        for machine in machines(371, 400, 4, 2, 3) + machines(372, 60, 7, 1, 2):
            told = loses(machine)
            self.assertEqual(told, slow_loses(machine), machine)
            kinds[told and told[0]] = kinds.get(told and told[0], 0) + 1
        self.assertEqual(sorted(kinds, key=str), [None, "merge", "ring"])
        self.assertGreater(min(kinds.values()), 5)

    def test_by_meeting(self):
        self.assertEqual(loses(shift_machine((0,))), ("merge", [0], [1]))
        self.assertEqual(loses(shift_machine((0, 0, 0))), ("merge", [0], [1]))
        later = ("machine", 1, 1, ((1, 2), (0, 0), (0, 0)), (((0,), (0,)), ((0,), (1,)), ((0,), (1,))))
        self.assertEqual(loses(later), ("merge", [0, 0], [1, 0]))
        wide = ("machine", 2, 1, ((0, 0, 0, 0),), (((0,), (1,), (1,), (0,)),))
        self.assertEqual(loses(wide), ("merge", [0], [3]))

    def test_meeting_behind_equal_steps(self):
        waits = ("machine", 1, 1, ((0, 1), (1, 1)), (((0,), (1,)), ((0,), (0,))))
        self.assertEqual(loses(waits), ("merge", [1, 0], [1, 1]))

    def test_by_a_ring_only(self):
        self.assertEqual(loses(RING), ("ring", [0], [1], [0], [0]))
        two = ("machine", 1, 1, ((1, 2), (3, 3), (4, 4), (1, 1), (2, 2)), (((0,), (0,)),) + (((0,), (1,)),) * 4)
        self.assertEqual(loses(two), ("ring", [0], [1], [0, 0], [0, 0]))

    def test_a_ring_behind_a_pair_without_one(self):
        nexts = ((1, 2), (3, 3), (4, 4), (3, 3), (4, 4))
        machine = ("machine", 1, 1, nexts, (((0,), (0,)),) + (((0,), (1,)),) * 4)
        self.assertEqual(loses(machine), ("ring", [0, 0], [1, 0], [0], [0]))

    def test_meeting_goes_ahead_of_a_ring(self):
        nexts = ((1, 2), (1, 3), (2, 3), (3, 3))
        machine = ("machine", 1, 2, nexts, (((0, 0), (0, 0)),) + (((0, 0), (1, 1)),) * 2 + (((0, 0), (1, 1)),))
        self.assertEqual(loses(machine), ("merge", [0, 1], [1, 1]))

    def test_equal_rows_that_come_around_are_no_ring(self):
        for polys in ((1,), (7, 5), (2,), (16,), (31, 1)):
            self.assertIsNone(loses(shift_machine(polys)))
        self.assertIsNone(loses(LATE))

    def test_unreached_states_do_not_count(self):
        machine = ("machine", 1, 1, ((0, 0), (1, 1)), (((0,), (1,)), ((0,), (0,))))
        self.assertIsNone(loses(machine))


class Delays(unittest.TestCase):
    def by_hand(self, machine, most):
        """The most choices from the first different one on, of rows of one length that give the same bits."""
        longest = 0
        for length in range(most + 1):
            given = {}
            for row in lists_of(machine, length):
                given.setdefault(tuple(run(machine, 0, row)[1]), []).append(row)
            for rows in given.values():
                # The rows ascend, so the first and the last one have the shortest beginning in common.
                same = [a == b for a, b in zip(rows[0], rows[-1])]
                longest = max(longest, length - (same + [False]).index(False))
        return longest

    def test_by_the_words_of_the_document(self):
        told = {}
        for machine in machines(381, 600, 4, 1, 3):
            if loses(machine) is None:
                self.assertEqual(delay(machine), self.by_hand(machine, 9), machine)
                told[delay(machine)] = True
        self.assertTrue({0, 1, 2} <= set(told))

    def test_two_bits_in_a_choice(self):
        some = 0
        for machine in machines(382, 200, 3, 2, 4):
            if machine[1] == 2 and loses(machine) is None:
                self.assertEqual(delay(machine), self.by_hand(machine, 4))
                some += 1
        self.assertGreater(some, 5)

    def test_none_at_all(self):
        for polys in [(poly,) for poly in range(1, 32)] + [(7, 5), (2, 1), (0, 1), (1, 2, 4, 8)]:
            self.assertEqual(delay(shift_machine(polys)), 0)

    def test_one_and_more(self):
        self.assertEqual(delay(LATE), 1)
        # Each state stands for the choice that led to it, which is told as it is left.
        wide = ("machine", 2, 2, ((0, 1, 2, 3),) * 4, tuple((bits,) * 4 for bits in ((0, 0), (0, 1), (1, 0), (1, 1))))
        self.assertEqual(delay(wide), 1)
        self.assertEqual(delay(behind(LATE, LATE)), 2)
        self.assertEqual(delay(behind(behind(LATE, LATE), LATE)), 3)

    def test_the_lowest_place_of_a_window_is_its_oldest_bit(self):
        # The states of a window of five bits, of which only the oldest one counts.
        nexts = shift_machine((16,))[3]
        outs = tuple(((state & 1,), (state & 1,)) for state in range(16))
        self.assertEqual(delay(("machine", 1, 1, nexts, outs)), 4)

    def test_none_for_a_machine_that_loses(self):
        for machine in machines(383, 100, 4):
            self.assertEqual(delay(machine) is None, loses(machine) is not None)
        self.assertIsNone(delay(shift_machine((0, 0))))
        self.assertIsNone(delay(RING))


class Kept(unittest.TestCase):
    def test_arguments_stay_and_results_are_new(self):
        source = random.Random(390)
        machine = any_machine(source, 1, 2, 4)
        stands_alone(self, behind, shift_machine((7, 5)), shift_machine((3, 1)))
        stands_alone(self, reached, machine)
        stands_alone(self, reduced, machine)
        stands_alone(self, unlike, shift_machine((7, 5)), shift_machine((7, 7)))
        for other in (machine, RING, LATE, shift_machine((0,)), shift_machine((7, 5))):
            stands_alone(self, loses, other)
            stands_alone(self, delay, other)

    def test_rows_of_a_ring_may_be_changed(self):
        told = loses(RING)
        for row in told[1:]:
            row.append(9)
        self.assertEqual(told, ("ring", [0, 9], [1, 9], [0, 9], [0, 9]))
        self.assertEqual(loses(RING), ("ring", [0], [1], [0], [0]))


if __name__ == "__main__":
    unittest.main()
