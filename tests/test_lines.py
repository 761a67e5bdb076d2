"""Points 2.5 to 2.7."""

import random
import unittest

from heardtrue.lines import check_line, cost, joined, lost, reach, sent, spoiled, turned_line
from support import any_line, any_points, fault, line_of, smeared_by_hand, stands_alone


class Checked(unittest.TestCase):
    def test_one_to_four_taps(self):
        for many in range(1, 5):
            line = line_of(*[(many, -at) for at in range(many)])
            self.assertIsNone(check_line(line))
            self.assertEqual(reach(line), many - 1)

    def test_parts_at_their_edges(self):
        self.assertIsNone(check_line(line_of((50, -50))))
        self.assertIsNone(check_line(line_of((-50, 50), (0, 0))))

    def test_one_tap_may_be_all(self):
        self.assertIsNone(check_line(line_of((0, 0), (0, 0), (0, 0), (0, 1))))
        self.assertIsNone(check_line(line_of((-1, 0), (0, 0))))
        self.assertEqual(reach(line_of((1, 0), (0, 0), (0, 0))), 2)

    def test_taps(self):
        for taps in ((), ((1, 0),) * 5, [(1, 0)], [], None, 3, True, "taps"):
            self.assertEqual(fault(check_line, ("line", taps)), "taps", taps)

    def test_tap(self):
        wrong = [
            [1, 0], (1,), (), (1, 0, 0), 1, None, True, "10", (True, 0), (1, False), (1, None), (1.0, 0),
            (51, 0), (-51, 0), (0, 51), (0, -51), (10 ** 30, 0),
        ]
        for thing in wrong:
            for line in (line_of(thing), line_of((1, 0), thing), line_of(thing, (1, 0))):
                self.assertEqual(fault(check_line, line), "tap", thing)

    def test_nothing(self):
        for many in range(1, 5):
            self.assertEqual(fault(check_line, line_of(*[(0, 0)] * many)), "nothing")

    def test_of_several_faults_the_first_one(self):
        self.assertEqual(fault(check_line, line_of(*[(0, 0)] * 5)), "taps")
        self.assertEqual(fault(check_line, line_of(*[(99, 0)] * 5)), "taps")
        self.assertEqual(fault(check_line, line_of((0, 0), (False, 0))), "tap")
        self.assertEqual(fault(check_line, line_of((0, 0), None)), "tap")


class Sent(unittest.TestCase):
    def test_no_point(self):
        for many in range(1, 5):
            self.assertEqual(sent(line_of(*[(1, 1)] * many), []), [])

    def test_one_point(self):
        self.assertEqual(sent(line_of((2, 0)), [(1, 5)]), [(2, 10)])
        self.assertEqual(sent(line_of((2, 0), (0, 0), (0, 1)), [(1, 5)]), [(2, 10), (0, 0), (-5, 1)])
        self.assertEqual(sent(line_of((1, 0), (0, 1), (-1, 0), (0, -1)), [(1, 0)]), [(1, 0), (0, 1), (-1, 0), (0, -1)])

    def test_silence_counts_as_points(self):
        self.assertEqual(sent(line_of((1, 0), (1, 0)), [(0, 0)]), [(0, 0), (0, 0)])

    def test_the_taps_reach_back(self):
        line = line_of((1, 0), (10, 0), (0, 0))
        self.assertEqual(sent(line, [(1, 0), (2, 0)]), [(1, 0), (12, 0), (20, 0), (0, 0)])

    def test_by_hand(self):
        source = random.Random(31)
        for taps in range(1, 5):
            for many in range(8):
                line, points = any_line(source, taps, 50), any_points(source, many, 10 ** 9)
                self.assertEqual(sent(line, points), smeared_by_hand(line, points))
                self.assertEqual(len(sent(line, points)), many + taps - 1 if many else 0)


class Joined(unittest.TestCase):
    def test_it_is_one_behind_the_other(self):
        source = random.Random(32)
        for one_taps, other_taps in ((1, 1), (1, 4), (4, 1), (2, 3), (3, 2), (2, 2)):
            one, other = any_line(source, one_taps, 2), any_line(source, other_taps, 2)
            both = joined(one, other)
            self.assertIsNone(check_line(both))
            self.assertEqual(len(both[1]), one_taps + other_taps - 1)
            for many in range(6):
                points = any_points(source, many, 1000)
                self.assertEqual(sent(both, points), sent(other, sent(one, points)))

    def test_more_than_four_taps(self):
        for one_taps, other_taps in ((4, 2), (2, 4), (3, 3), (4, 4)):
            one, other = line_of(*[(1, 0)] * one_taps), line_of(*[(1, 0)] * other_taps)
            self.assertEqual(fault(joined, one, other), "taps")

    def test_taps_of_zero_count(self):
        self.assertEqual(joined(line_of((1, 0), (0, 0)), line_of((0, 0), (1, 0), (0, 0)))[1], ((0, 0), (1, 0), (0, 0), (0, 0)))
        self.assertEqual(fault(joined, line_of((1, 0), (0, 0), (0, 0)), line_of((1, 0), (0, 0), (0, 0))), "taps")

    def test_a_tap_that_comes_out_too_great(self):
        self.assertIsNone(fault(joined, line_of((10, 0)), line_of((-5, 5))))
        self.assertEqual(joined(line_of((10, 0)), line_of((-5, 5))), line_of((-50, 50)))
        self.assertEqual(fault(joined, line_of((17, 0)), line_of((3, 0))), "tap")
        self.assertEqual(fault(joined, line_of((0, 17)), line_of((3, 0))), "tap")
        self.assertEqual(fault(joined, line_of((5, 0), (5, 0)), line_of((6, 0), (6, 0))), "tap")

    def test_of_both_faults_the_taps(self):
        line = line_of((50, 0), (50, 0), (50, 0))
        self.assertEqual(fault(joined, line, line), "taps")


class Turned(unittest.TestCase):
    def test_any_quarters(self):
        line = line_of((50, -49), (0, 0), (1, 2))
        around = [
            line, line_of((49, 50), (0, 0), (-2, 1)), line_of((-50, 49), (0, 0), (-1, -2)),
            line_of((-49, -50), (0, 0), (2, -1)),
        ]
        for quarters in range(-9, 10):
            self.assertEqual(turned_line(line, quarters), around[quarters % 4])
        self.assertEqual(turned_line(line, 10 ** 40 + 1), around[1])

    def test_what_comes_out_is_turned(self):
        line, points = line_of((1, 2), (-3, 0)), [(4, 5), (-6, 7)]
        turned = [(-y, x) for x, y in sent(line, points)]
        self.assertEqual(sent(turned_line(line, 1), points), turned)


class Spoiled(unittest.TestCase):
    def test_noise_is_added(self):
        self.assertEqual(spoiled([(1, 2), (3, 4)], [(5, -6), (0, 0)]), [(6, -4), (3, 4)])
        self.assertEqual(spoiled([], []), [])

    def test_lost_ones_stay_lost(self):
        self.assertEqual(spoiled([None, (3, 4), None], [(5, 6), (1, 1), (0, 0)]), [None, (4, 5), None])

    def test_noise(self):
        for many, others in ((0, 1), (1, 0), (2, 3), (3, 2)):
            self.assertEqual(fault(spoiled, [(0, 0)] * many, [(0, 0)] * others), "noise")
            self.assertEqual(fault(spoiled, [None] * many, [(0, 0)] * others), "noise")


class Lost(unittest.TestCase):
    def test_places(self):
        samples = [(1, 1), (2, 2), (3, 3)]
        self.assertEqual(lost(samples, []), samples)
        self.assertEqual(lost(samples, [2, 0]), [None, (2, 2), None])
        self.assertEqual(lost(samples, [1, 1]), [(1, 1), None, (3, 3)])
        self.assertEqual(lost([None, (2, 2)], [0, 1]), [None, None])
        self.assertEqual(lost([], []), [])

    def test_places_beyond_are_passed_over(self):
        self.assertEqual(lost([(1, 1), (2, 2)], [2, 99, -1]), [(1, 1), (2, 2)])


class Cost(unittest.TestCase):
    def test_sizes_of_the_differences(self):
        self.assertEqual(cost([(1, 2), (0, 0)], [(4, 6), (0, -1)]), 26)
        self.assertEqual(cost([], []), 0)
        self.assertEqual(cost([(10 ** 30, 0)], [(0, 0)]), 10 ** 60)

    def test_lost_samples_do_not_count(self):
        self.assertEqual(cost([None, (0, 0), None], [(4, 6), (0, -1), (9, 9)]), 1)
        self.assertEqual(cost([None], [(4, 6)]), 0)

    def test_samples(self):
        for many, others in ((0, 1), (1, 0), (2, 3), (3, 2)):
            self.assertEqual(fault(cost, [(0, 0)] * many, [(0, 0)] * others), "samples")
            self.assertEqual(fault(cost, [None] * many, [(0, 0)] * others), "samples")

    def test_the_cost_of_what_was_sent_is_the_noise_that_is_left(self):
        line, points = line_of((2, 1), (0, 3)), [(1, 1), (-5, 2), (0, 7)]
        clear, noise = sent(line, points), [(1, 0), (0, -2), (3, 4), (-1, -1)]
        self.assertEqual(cost(spoiled(clear, noise), clear), 1 + 4 + 25 + 2)
        self.assertEqual(cost(lost(spoiled(clear, noise), [2]), clear), 1 + 4 + 2)
        self.assertEqual(spoiled(lost(clear, [0, 3]), noise), lost(spoiled(clear, noise), [0, 3]))


class Kept(unittest.TestCase):
    def test_arguments_stay_and_results_are_new(self):
        line, samples, points = line_of((2, 0), (0, 1)), [(1, 1), None], [(3, 3), (4, 4)]
        stands_alone(self, check_line, line)
        stands_alone(self, reach, line)
        stands_alone(self, sent, line, points)
        stands_alone(self, sent, line, [])
        stands_alone(self, joined, line, line)
        stands_alone(self, turned_line, line, 0)
        stands_alone(self, spoiled, samples, points)
        stands_alone(self, spoiled, [], [])
        stands_alone(self, lost, samples, [0])
        stands_alone(self, lost, samples, [])
        stands_alone(self, cost, samples, points)


if __name__ == "__main__":
    unittest.main()
