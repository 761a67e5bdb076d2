"""Points 3.1 to 3.3."""

import random
import unittest
from itertools import product

from heardtrue.machines import (
    check_machine, choices_of, is_machine, row_of, run, shift_machine, tail_steps, ways_back,
)
from support import any_machine, fault, lists_of, machines, stands_alone

ONE = ("machine", 1, 1, ((0, 0),), (((0,), (1,)),))
TWO = ("machine", 1, 2, ((0, 1), (1, 0)), (((0, 0), (1, 1)), ((0, 1), (1, 0))))


def changed(machine, place, thing):
    items = list(machine)
    items[place] = thing
    return tuple(items)


class IsMachine(unittest.TestCase):
    def test_each_size(self):
        for k, n, states in product((1, 2), (1, 2, 3, 4), (1, 2, 15, 16)):
            nexts = ((states - 1,) * 2 ** k,) * states
            outs = (((1,) * n,) * 2 ** k,) * states
            self.assertIs(is_machine(("machine", k, n, nexts, outs)), True)
            self.assertIsNone(check_machine(("machine", k, n, nexts, outs)))

    def test_made_machines(self):
        for machine in machines(301, 100, 16, 2, 4) + [ONE, TWO]:
            self.assertIs(is_machine(machine), True)


class Anything:
    """A thing that says it is equal to all others."""

    def __eq__(self, other):
        return True


class IsNone(unittest.TestCase):
    def none(self, *things):
        for thing in things:
            self.assertIs(is_machine(thing), False, thing)
            self.assertEqual(fault(check_machine, thing), "machine", thing)

    def test_things_that_are_no_tuples(self):
        self.none(None, True, False, 0, 1, "machine", b"machine", [], {}, object(), is_machine, 1.5, list(ONE), (), ((),))

    def test_another_word(self):
        for word in ("machines", "Machine", "", None, 0, True, b"machine", ("machine",), ["machine"], Anything()):
            self.none(changed(ONE, 0, word))

    def test_another_length(self):
        self.none(ONE[:4], ONE + (0,), ONE[:1], ONE[1:], ONE + ONE)

    def test_other_numbers_of_bits(self):
        self.none(*[changed(ONE, 1, k) for k in (0, 2, 3, -1, True, "1", None, 1.0, (1,), 10 ** 30, -(10 ** 30))])
        self.none(*[changed(ONE, 2, n) for n in (0, 2, 5, -1, True, "1", None, 1.0, (1,), 10 ** 30, -(10 ** 30))])
        self.none(("machine", 3, 1, ((0,) * 8,), (((0,),) * 8,)))
        self.none(("machine", 0, 1, ((0,),), (((0,),),)))
        self.none(("machine", 1, 5, ((0, 0),), (((0,) * 5,) * 2,)), ("machine", 1, 0, ((0, 0),), (((),) * 2,)))

    def test_things_that_are_equal_to_all_others(self):
        self.none(Anything(), *[changed(ONE, place, Anything()) for place in range(5)])

    def test_numbers_of_states(self):
        self.none(("machine", 1, 1, (), ()))
        self.none(("machine", 1, 1, ((0, 0),) * 17, (((0,), (0,)),) * 17))
        self.none(("machine", 1, 1, ((0, 0),) * 2, (((0,), (0,)),)), ("machine", 1, 1, ((0, 0),), (((0,), (0,)),) * 2))
        self.none(("machine", 1, 1, ((0, 0),), ()), ("machine", 1, 1, (), (((0,), (0,)),)))

    def test_other_things_in_the_place_of_nexts(self):
        self.none(*[changed(ONE, 3, thing) for thing in (None, 0, True, "00", [(0, 0)], {0: (0, 0)}, (0, 0))])
        rows = ([0, 0], (0,), (0, 0, 0), (), 0, None, "00", {0: 0, 1: 0})
        self.none(*[changed(ONE, 3, (row,)) for row in rows])

    def test_states_out_of_range(self):
        for state in (-1, 2, 16, 10 ** 30, True, False, None, "0", 0.0, (0,), [0]):
            for nexts in (((state, 1), (1, 0)), ((0, state), (1, 0)), ((0, 1), (1, state))):
                self.none(changed(TWO, 3, nexts))

    def test_other_things_in_the_place_of_outs(self):
        self.none(*[changed(ONE, 4, thing) for thing in (None, 0, True, "00", [((0,), (1,))], {0: 0}, ((0,), (1,)))])
        rows = ([(0,), (1,)], ((0,),), ((0,), (1,), (1,)), (), 0, None, ((0,), [1]), (0, 1), ((0,), None), "01")
        self.none(*[changed(ONE, 4, (row,)) for row in rows])
        for bits in ((), (0, 0, 0), (0,), [0, 0], 0, None, "00"):
            self.none(changed(TWO, 4, (((0, 0), (1, 1)), ((0, 1), bits))))

    def test_bits_out_of_range(self):
        for bit in (-1, 2, 10 ** 30, True, False, None, "0", 0.0, (0,)):
            self.none(changed(ONE, 4, (((bit,), (1,)),)), changed(ONE, 4, (((0,), (bit,)),)))
            self.none(changed(TWO, 4, (((0, 0), (1, 1)), ((0, 1), (1, bit)))))


class Choices(unittest.TestCase):
    def test_one_bit(self):
        self.assertEqual(choices_of(ONE, [0, 1, 1]), [0, 1, 1])
        self.assertEqual(row_of(ONE, [0, 1, 1]), [0, 1, 1])

    def test_two_bits_the_first_one_highest(self):
        pair = ("machine", 2, 1, ((0,) * 4,), (((0,),) * 4,))
        self.assertEqual(choices_of(pair, [0, 1, 1, 0, 1, 1, 0, 0]), [1, 2, 3, 0])
        self.assertEqual(row_of(pair, [1, 2, 3, 0]), [0, 1, 1, 0, 1, 1, 0, 0])
        for row in product((0, 1), repeat=6):
            self.assertEqual(row_of(pair, choices_of(pair, list(row))), list(row))

    def test_the_empty_row(self):
        for machine in (ONE, ("machine", 2, 1, ((0,) * 4,), (((0,),) * 4,))):
            self.assertEqual([choices_of(machine, []), row_of(machine, [])], [[], []])

    def test_row(self):
        pair = ("machine", 2, 1, ((0,) * 4,), (((0,),) * 4,))
        for many in range(9):
            self.assertEqual(fault(choices_of, pair, [1] * many), "row" if many % 2 else None)


class Runs(unittest.TestCase):
    def test_from_any_state(self):
        self.assertEqual(run(TWO, 0, [0, 1, 0, 1]), (0, [0, 0, 1, 1, 0, 1, 1, 0]))
        self.assertEqual(run(TWO, 1, [1, 1]), (1, [1, 0, 1, 1]))

    def test_no_choices(self):
        for machine in machines(302, 20, 16):
            for state in range(len(machine[3])):
                self.assertEqual(run(machine, state, []), (state, []))

    def test_step_by_step(self):
        for machine in machines(303, 40, 5, 2, 4):
            for begin in range(len(machine[3])):
                for choices in lists_of(machine, 3):
                    state, given = begin, []
                    for choice in choices:
                        given += machine[4][state][choice]
                        state = machine[3][state][choice]
                    self.assertEqual(run(machine, begin, choices), (state, given))

    def test_two_runs_are_one(self):
        machine = shift_machine((23, 29, 31))
        state, ahead = run(machine, 0, [1, 1, 0, 1])
        last, rest = run(machine, state, [0, 0, 1])
        self.assertEqual(run(machine, 0, [1, 1, 0, 1, 0, 0, 1]), (last, ahead + rest))


class Shifts(unittest.TestCase):
    def by_hand(self, polys):
        m = 0
        while not all(poly < 2 ** (m + 1) for poly in polys):
            m += 1
        nexts, outs = [], []
        for state in range(2 ** m):
            windows = [bit * 2 ** m + state for bit in (0, 1)]
            nexts.append(tuple(window // 2 for window in windows))
            outs.append(tuple(tuple(bin(window & poly).count("1") % 2 for poly in polys) for window in windows))
        return ("machine", 1, len(polys), tuple(nexts), tuple(outs))

    def test_all_single_polynomials(self):
        for poly in range(32):
            self.assertEqual(shift_machine((poly,)), self.by_hand((poly,)))

    def test_several_polynomials(self):
        for polys in ((7, 5), (1, 0), (0, 31), (31, 31), (2, 1, 4), (8, 16, 3), (1, 2, 3, 4), (31, 0, 1, 17), (16, 16)):
            self.assertEqual(shift_machine(polys), self.by_hand(polys))
            self.assertTrue(is_machine(shift_machine(polys)))

    def test_only_zero_and_one(self):
        self.assertEqual(shift_machine((0,)), ("machine", 1, 1, ((0, 0),), (((0,), (0,)),)))
        self.assertEqual(shift_machine((1,)), ("machine", 1, 1, ((0, 0),), (((0,), (1,)),)))
        self.assertEqual(shift_machine((0, 1, 1, 0)), ("machine", 1, 4, ((0, 0),), (((0, 0, 0, 0), (0, 1, 1, 0)),)))
        self.assertEqual(shift_machine((0, 0, 0, 0)), ("machine", 1, 4, ((0, 0),), (((0, 0, 0, 0), (0, 0, 0, 0)),)))

    def test_numbers_of_states(self):
        polys = (0, 1, 2, 3, 4, 7, 8, 15, 16, 31)
        self.assertEqual([len(shift_machine((poly,))[3]) for poly in polys], [1, 1, 2, 2, 4, 4, 8, 8, 16, 16])

    def test_shift(self):
        wrong = [
            (), (1,) * 5, [7, 5], [1], None, 7, True, "75", {7: 5}, (32,), (-1,), (7, 32), (7, -1), (True,), (7, False),
            (7, None), (7, "5"), (7, 5.0), ((7,),), ([7],), (10 ** 30,), (1, 2, 3, 4, 99),
        ]
        for thing in wrong:
            self.assertEqual(fault(shift_machine, thing), "shift", thing)


def leads_back(machine, state, choices):
    return run(machine, state, choices)[0] == 0


class WaysBack(unittest.TestCase):
    def test_no_steps(self):
        for machine in machines(304, 20, 16):
            self.assertEqual(ways_back(machine, 0), {0: []})

    def test_by_trying_all(self):
        for machine in machines(305, 60, 6):
            for steps in range(5 if machine[1] == 1 else 4):
                wanted = {}
                for state in range(len(machine[3])):
                    ways = [way for way in lists_of(machine, steps) if leads_back(machine, state, way)]
                    if ways:
                        wanted[state] = ways[0]
                self.assertEqual(ways_back(machine, steps), wanted)

    def test_no_other_states(self):
        away = ("machine", 1, 1, ((1, 1), (1, 2), (0, 2)), (((0,), (0,)),) * 3)
        self.assertEqual([ways_back(away, steps) for steps in (1, 2)], [{2: [0]}, {1: [1, 0], 2: [1, 0]}])
        lone = ("machine", 1, 1, ((1, 1), (1, 1)), (((0,), (0,)),) * 2)
        self.assertEqual([ways_back(lone, steps) for steps in (0, 1, 2)], [{0: []}, {}, {}])

    def test_the_least_list_is_not_the_first_way_in(self):
        # From state 1 both choices lead on, and the lesser one must come first although its rest is greater.
        machine = ("machine", 1, 1, ((0, 0), (2, 3), (1, 0), (0, 1)), (((0,), (0,)),) * 4)
        self.assertEqual(ways_back(machine, 2)[1], [0, 1])

    def test_many_steps(self):
        self.assertEqual(ways_back(shift_machine((31,)), 3000)[15], [0] * 3000)


class TailSteps(unittest.TestCase):
    def by_hand(self, machine, unit, most):
        for steps in range(0, most, unit):
            if len(ways_back(machine, steps)) == len(machine[3]):
                return steps
        return None

    def test_by_trying_all(self):
        for machine in machines(306, 80, 5) + [shift_machine((3,)), shift_machine((7, 5)), shift_machine((31,))]:
            for unit in range(1, 6):
                self.assertEqual(tail_steps(machine, unit), self.by_hand(machine, unit, 80))

    def test_several_units(self):
        machine = shift_machine((23, 29))
        self.assertEqual([tail_steps(machine, unit) for unit in (1, 2, 3, 4, 5, 10 ** 30)], [4, 4, 6, 4, 5, 10 ** 30])

    def test_one_state_alone(self):
        self.assertEqual([tail_steps(ONE, unit) for unit in (1, 2, 7)], [0, 0, 0])

    def test_none(self):
        lone = ("machine", 1, 1, ((1, 1), (1, 1)), (((0,), (0,)),) * 2)
        turns = ("machine", 1, 1, ((1, 1), (0, 0)), (((0,), (0,)),) * 2)
        stuck = ("machine", 1, 1, ((0, 1), (1, 1)), (((0,), (0,)),) * 2)
        for machine in (lone, turns, stuck):
            self.assertEqual([tail_steps(machine, unit) for unit in (1, 2, 3)], [None, None, None])

    def test_unreached_states_count(self):
        unreached = ("machine", 1, 1, ((0, 0), (1, 1)), (((0,), (0,)),) * 2)
        self.assertIsNone(tail_steps(unreached, 1))
        slow = ("machine", 1, 1, ((0, 0), (0, 0), (1, 1)), (((0,), (0,)),) * 3)
        self.assertEqual([tail_steps(slow, unit) for unit in (1, 2, 3)], [2, 2, 3])

    def test_a_long_way(self):
        # A ring of 16 states with one short cut comes together late.
        nexts = tuple(((state + 1) % 16, 0 if state >= 14 else state + 1) for state in range(16))
        machine = ("machine", 1, 1, nexts, (((0,), (0,)),) * 16)
        steps = tail_steps(machine, 1)
        self.assertEqual(len(ways_back(machine, steps)), 16)
        self.assertLess(len(ways_back(machine, steps - 1)), 16)
        self.assertEqual(tail_steps(machine, 1000), 1000)


class Kept(unittest.TestCase):
    def test_arguments_stay_and_results_are_new(self):
        machine = any_machine(random.Random(307), 2, 3, 4)
        stands_alone(self, is_machine, machine)
        stands_alone(self, is_machine, ["machine", [1], {2: [3]}])
        stands_alone(self, is_machine, ("machine", 1, 1, ([0, 0],), ([[0], [1]],)))
        stands_alone(self, check_machine, machine)
        stands_alone(self, shift_machine, (7, 5))
        stands_alone(self, choices_of, machine, [1, 0, 0, 1])
        stands_alone(self, choices_of, TWO, [1, 0, 0, 1])
        stands_alone(self, row_of, machine, [1, 3])
        stands_alone(self, row_of, TWO, [1, 0])
        stands_alone(self, run, machine, 1, [0, 3, 2])
        stands_alone(self, run, machine, 1, [])
        for steps in range(4):
            stands_alone(self, ways_back, TWO, steps)
            stands_alone(self, ways_back, machine, steps)
        stands_alone(self, tail_steps, shift_machine((7, 5)), 3)

    def test_a_machine_with_lists_is_not_changed_by_looking(self):
        thing = ("machine", 1, 1, [(0, 0)], [((0,), (1,))])
        self.assertIs(is_machine(thing), False)
        self.assertEqual(thing, ("machine", 1, 1, [(0, 0)], [((0,), (1,))]))


if __name__ == "__main__":
    unittest.main()
