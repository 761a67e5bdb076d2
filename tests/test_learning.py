"""Points 22.1 to 22.4 and 22.7: lines that are learnt."""

import random
import unittest

from heardtrue.learning import check_known, learn, line_distance
from heardtrue.learnt import check_learnt
from heardtrue.lines import check_line, sent
from slowlearning import (
    SlowTrees, any_known, box, cost_of_taps, costs_in_box, learning_cases, tells_apart_by_hand, verdict_by_hand,
)
from support import any_points, fault, smeared_by_hand, stands_alone

POINTS = ((1, 0), (1, 0), (-1, 0))
ANY = [None, True, False, "", "3", 1.0, [], (), {}, [3], (3,), b"1"]


class Known(unittest.TestCase):
    def test_right_ones(self):
        for points in (((1, 0),), ((0, -1000),), ((0, 0), (0, 1)), ((1000, 1000),) * 40, ((0, 0),) * 39 + ((-1, 0),)):
            for taps in (1, 2, 3, 4):
                for bound in (1, 2, 49, 50):
                    self.assertIsNone(check_known(points, taps, bound))

    def test_known(self):
        wrong = ANY + [
            ((0, 0),), ((0, 0),) * 40, ((1, 0),) * 41, ((1001, 0),), ((0, -1001),), ((1, 0), (1001, 0)), [(1, 0)], ([1, 0],),
            ((1, 0), [1, 0]), ((1,),), ((1, 0, 0),), ((True, 0),), ((1, False),), ((1.0, 0),), ((1, 0), None), ((1, 0), "10"),
            ("line", ((1, 0),)), {(1, 0): 1}, ((None, 1),), (1, 0),
        ]
        for points in wrong:
            for taps in [1, 4, 0, 5] + ANY:
                for bound in (1, 50, 0, None):
                    self.assertEqual(fault(check_known, points, taps, bound), "known", points)

    def test_taps_and_bound(self):
        for taps in [0, -1, 5, 100] + ANY:
            for bound in [1, 50, 0, 51] + ANY:
                self.assertEqual(fault(check_known, POINTS, taps, bound), "taps")
        for bound in [0, -1, 51, 1000] + ANY:
            self.assertEqual(fault(check_known, POINTS, 1, bound), "bound")


class Learnt(unittest.TestCase):
    def test_by_hand(self):
        told = learn(POINTS, 2, 1, [(1, 0), (1, 1), (-1, 1), (0, -1)])
        self.assertEqual(told[0], ("line", ((1, 0), (0, 1)), 0))
        self.assertEqual(learn(((1, 0),), 1, 5, [(2, -3)])[0], ("line", ((2, -3),), 0))
        # Beyond the box the nearest line is on its border.
        self.assertEqual(learn(((1, 0),), 1, 5, [(9, -3)])[0], ("line", ((5, -3),), 16))
        self.assertEqual(learn(((2, 0),), 1, 5, [(1, 0)])[0], ("line", ((1, 0),), 1))
        # The line that makes nothing is not in the box: of four lines beside it those with the least taps are told.
        self.assertEqual(learn(((1, 0),), 1, 5, [(0, 0)])[0], ("tie", ((-1, 0),), ((0, -1),), 1))
        self.assertEqual(learn(((2, 0),), 1, 5, [(3, 1)])[0], ("tie", ((1, 0),), ((1, 1),), 2))

    def test_by_all_lines_of_the_box(self):
        kinds = []
        for points, taps, bound, samples in learning_cases(400, 220):
            verdict, paper = learn(points, taps, bound, samples)
            if verdict is None:
                self.assertIsNone(paper)
                self.assertFalse(tells_apart_by_hand(points, taps, samples))
                kinds.append("none")
                continue
            self.assertTrue(tells_apart_by_hand(points, taps, samples))
            self.assertEqual(verdict, verdict_by_hand(costs_in_box(points, taps, bound, samples)))
            self.assertEqual(paper[:-1], verdict[:-1])
            self.assertEqual(check_learnt(points, taps, bound, samples, paper), verdict)
            check_line(("line", verdict[1]))
            kinds.append((verdict[0], taps))
        for kind in ("none", ("line", 1), ("line", 2), ("line", 3), ("tie", 1), ("tie", 2), ("tie", 3)):
            self.assertGreater(kinds.count(kind), 3, kind)

    def test_four_taps(self):
        source = random.Random(401)
        for _ in range(4):
            points = any_known(source, 4, 2)
            line = source.choice(box(4, 1))
            samples = [(x + source.randint(-1, 1), y) for x, y in smeared_by_hand(("line", line), list(points))]
            verdict, paper = learn(points, 4, 1, samples)
            self.assertEqual(verdict, verdict_by_hand(costs_in_box(points, 4, 1, samples)))
            self.assertEqual(check_learnt(points, 4, 1, samples, paper), verdict)

    def test_lost_samples(self):
        source = random.Random(402)
        apart = []
        for _ in range(80):
            taps, bound = source.choice(((1, 2), (2, 1)))
            points = any_known(source, source.randint(1, 3), 2)
            samples = smeared_by_hand(("line", source.choice(box(taps, bound))), list(points))
            for gone in range(2 ** len(samples)):
                left = [None if gone >> at & 1 else sample for at, sample in enumerate(samples)]
                verdict, _ = learn(points, taps, bound, left)
                apart.append(verdict is not None)
                self.assertEqual(apart[-1], tells_apart_by_hand(points, taps, left))
                if verdict is not None and gone % 5 == 0:
                    self.assertEqual(verdict, verdict_by_hand(costs_in_box(points, taps, bound, left)))
        self.assertGreater(apart.count(True), 60)
        self.assertGreater(apart.count(False), 60)

    def test_samples_that_do_not_tell_lines_apart(self):
        for points, taps, samples in (
            (((1, 0),), 1, [None]), (((1, 0),), 2, [(1, 0), None]), (((1, 0),), 2, [None, (1, 0)]),
            (((0, 0), (1, 0)), 2, [(0, 0), None, (1, 0)]), (((0, 0), (1, 0)), 1, [(5, 5), None]),
            (POINTS, 4, [None] * 6), (POINTS, 4, [(1, 1), (1, 1), None, None, None, (1, 1)]),
        ):
            self.assertEqual(learn(points, taps, 3, samples), (None, None))
            for thing in (None, ("line", ((1, 0),) * taps, []), ("tie", ((0, 0),) * taps, ((1, 0),) * taps, [("cut", -3, 3)])):
                self.assertIsNone(check_learnt(points, taps, 3, samples, thing))

    def test_great_boxes(self):
        source = random.Random(403)
        for taps in (1, 2, 3, 4):
            for many in (5, 40):
                points = any_known(source, many, 1000)
                line = ("line", tuple(any_points(source, taps - 1, 50)) + ((50, -50),))
                samples = [(x + source.randint(-90, 90), y + source.randint(-90, 90)) for x, y in sent(line, list(points))]
                cost = cost_of_taps(points, line[1], samples)
                verdict, paper = learn(points, taps, 50, samples)
                self.assertEqual(verdict, ("line", line[1], cost))
                self.assertEqual(check_learnt(points, taps, 50, samples, paper), verdict)
                # A bound that leaves the line out.
                near, paper = learn(points, taps, 49, samples)
                self.assertGreater(near[-1], cost)
                self.assertEqual(check_learnt(points, taps, 49, samples, paper), near)
                for told in range(200):
                    other = tuple((x + source.randint(-1, 1), y + source.randint(-1, 1)) for x, y in near[1])
                    if max(abs(part) for tap in other for part in tap) <= 49:
                        self.assertGreaterEqual(cost_of_taps(points, other, samples), near[-1])

    def test_a_wrong_number_of_samples(self):
        for taps in (1, 2, 3, 4):
            right = [(1, 0)] * (len(POINTS) + taps - 1)
            for wrong in ([], right[1:], right + [None], right + right):
                self.assertEqual(fault(learn, POINTS, taps, 2, wrong), "samples")
                for thing in ANY + [learn(POINTS, taps, 2, right)[1]]:
                    self.assertEqual(fault(check_learnt, POINTS, taps, 2, wrong, thing), "samples")
            self.assertIsNone(fault(learn, POINTS, taps, 2, right))


class Bounds(unittest.TestCase):
    def test_the_cost_is_the_sum_of_all_parts_and_never_below_a_bound(self):
        for points, taps, bound, samples in learning_cases(404, 60):
            if not tells_apart_by_hand(points, taps, samples):
                continue
            slow = SlowTrees(points, taps, bound, samples)
            for cost, told in costs_in_box(points, taps, bound, samples)[::7]:
                numbers = [part for tap in told for part in tap]
                self.assertEqual(slow.bound_of(0, numbers), cost)
                for k in range(1, 2 * taps):
                    self.assertLessEqual(slow.bound_of(k, numbers[k:]), cost)


class Distances(unittest.TestCase):
    def all_pairs(self, points, taps, bound):
        """Point 22.7: the least sum, and the least difference of the taps that has it."""
        found = []
        lines = box(taps, bound)
        for one in lines:
            for other in lines:
                if one != other:
                    apart = tuple((a - c, b - d) for (a, b), (c, d) in zip(one, other))
                    made = smeared_by_hand(("line", apart), list(points))
                    found.append((sum(x * x + y * y for x, y in made), apart))
        return min(found)

    def test_all_pairs_of_lines(self):
        source = random.Random(405)
        self.assertEqual(line_distance(POINTS, 1, 2), (3, ((-1, 0),)))
        for taps, bound, many in ((1, 1, 30), (1, 2, 20), (2, 1, 4)):
            for _ in range(many):
                points = any_known(source, source.randint(1, 4), source.choice((1, 2, 9)))
                self.assertEqual(line_distance(points, taps, bound), self.all_pairs(points, taps, bound))

    def test_all_differences(self):
        # Each difference with parts up to twice the bound, but 0, is one of two lines of the box.
        source = random.Random(406)
        for taps, bound in ((2, 1), (2, 2), (3, 1)) * 2:
            points = any_known(source, source.randint(1, 6), source.choice((1, 3)))
            least = min((cost_of_taps(points, told, [(0, 0)] * (len(points) + taps - 1)), told) for told in box(taps, 2 * bound))
            self.assertEqual(line_distance(points, taps, bound), least)

    def test_points_for_which_far_differences_are_near(self):
        # What the first tap makes is nearly taken away by the second one: the difference needs great parts.
        points = tuple((1, 0) for _ in range(12))
        distance, apart = line_distance(points, 2, 3)
        self.assertEqual((distance, apart), (2, ((-1, 0), (1, 0))))
        # The second differences of a triangle are nearly all 0: parts of 2 are differences of those of two lines.
        points = tuple((x, 0) for x in (1, 2, 3, 4, 5, 6, 5, 4, 3, 2, 1))
        self.assertEqual(line_distance(points, 3, 1), (6, ((-1, 0), (2, 0), (-1, 0))))
        self.assertEqual(line_distance(points, 2, 1)[0], 12)
        # The third differences of these points are 1, -3, 3, -1 and many 0: but parts of 3 need a bound of 2.
        points = tuple((x, 0) for x in (1, 3, 6, 10, 12, 12, 10, 6, 3, 1))
        self.assertEqual(line_distance(points, 4, 2), (20, ((-1, 0), (3, 0), (-3, 0), (1, 0))))
        self.assertEqual(line_distance(points, 4, 1), (24, ((-1, 0), (2, 0), (-1, 0), (0, 0))))

    def test_noise_below_a_quarter(self):
        source = random.Random(407)
        noisy = 0
        for taps, bound in ((1, 3), (1, 20), (2, 1), (2, 5), (3, 2), (4, 1)):
            for _ in range(6):
                points = any_known(source, source.randint(2, 12), source.choice((2, 9)))
                distance, _ = line_distance(points, taps, bound)
                line = None
                while line is None or fault(check_line, line) is not None:
                    line = ("line", tuple(any_points(source, taps, bound)))
                clear = sent(line, list(points))
                noise = [(0, 0)] * len(clear)
                while True:
                    more = list(noise)
                    at = source.randrange(len(noise))
                    more[at] = (noise[at][0] + source.choice((-1, 1)), noise[at][1] + source.choice((-1, 0, 1)))
                    if 4 * sum(x * x + y * y for x, y in more) >= distance:
                        break
                    noise = more
                size = sum(x * x + y * y for x, y in noise)
                noisy += size > 0
                samples = [(a + c, b + d) for (a, b), (c, d) in zip(clear, noise)]
                self.assertEqual(learn(points, taps, bound, samples)[0], ("line", line[1], size))
        self.assertGreater(noisy, 15)

    def test_half_way_between_two_lines(self):
        source = random.Random(408)
        ties = 0
        for taps, bound in ((1, 2), (1, 5), (2, 1), (2, 2), (3, 1)) * 4:
            # With even points all differences are even.
            points = tuple((2 * x, 2 * y) for x, y in any_known(source, source.randint(1, 5), 3))
            distance, apart = line_distance(points, taps, bound)
            for one in box(taps, bound):
                other = tuple((a - c, b - d) for (a, b), (c, d) in zip(one, apart))
                if max(abs(part) for tap in other for part in tap) <= bound and any(tap != (0, 0) for tap in other):
                    break
            sides = zip(sent(("line", one), list(points)), sent(("line", other), list(points)))
            samples = [((a + c) // 2, (b + d) // 2) for (a, b), (c, d) in sides]
            self.assertEqual(4 * cost_of_taps(points, one, samples), distance)
            self.assertEqual(4 * cost_of_taps(points, other, samples), distance)
            verdict, _ = learn(points, taps, bound, samples)
            self.assertEqual((verdict[0], 4 * verdict[3]), ("tie", distance))
            ties += 1
        self.assertEqual(ties, 20)


class Kept(unittest.TestCase):
    def test_arguments_stay_and_results_are_new(self):
        for points, taps, bound, samples in learning_cases(409, 20):
            stands_alone(self, learn, points, taps, bound, samples)
            stands_alone(self, line_distance, points, taps, bound)
            stands_alone(self, check_known, points, taps, bound)
            paper = learn(points, taps, bound, samples)[1]
            stands_alone(self, check_learnt, points, taps, bound, samples, paper)
            stands_alone(self, check_learnt, points, taps, bound, samples, ["line", [("cut", 0, [1])]])


if __name__ == "__main__":
    unittest.main()
