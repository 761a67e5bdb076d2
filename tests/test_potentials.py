"""Points 5.4 to 5.6: potentials, and papers of paths."""

import copy
import random
import unittest

from heardtrue.potentials import are_right, check_paper, least_end, paper_of, potentials_of
from heardtrue.trellises import apart, cost_of, two_best
from support import paths_through, stands_alone, trellises

ONE = ("trellis", (1, 2, 1), [[(0, 0, 0, 3), (0, 1, 1, 1)], [(0, 0, 0, 0), (1, 0, 0, 2), (1, 0, 1, 4)]], (0,))
TWO = ("trellis", (1, 1), [[(0, 0, 0, 5), (0, 0, 3, 2)]], (0,))
# The rooms 1 of the first time and 2 of the second one are not reached.
GAPS = ("trellis", (2, 3, 2), [[(0, 0, 0, 4), (1, 2, 0, 1)], [(0, 1, 2, 7), (2, 0, 0, 1)]], (0, 1))
SINGLE = ("trellis", (2,), [], (0, 1))
ANY = [
    None, True, False, 0, 1, -1, "", "one", [], (), {}, [0], [[0]], [[[0]]], ((0,),), {0: [0]}, 1.0, ("one",), ("tie",),
    b"one", [None], [[None]],
]


def costs_to(trellis, room, time):
    """The costs of all ways from room 0 to a room."""
    return [cost for _, cost in paths_through(("trellis", trellis[1][:time + 1], trellis[2][:time], (room,)))]


def right_by_hand(trellis, table):
    """Point 5.4, word by word, for tables of the right size."""
    if table[0][0] != 0:
        return False
    for at, layer in enumerate(trellis[2]):
        for room, after, _, cost in layer:
            here, there = table[at][room], table[at + 1][after]
            if here is not None and (there is None or there > here + cost):
                return False
    return True


def changed(source, table):
    """A table that differs from a table at one or two places."""
    table = copy.deepcopy(table)
    for _ in range(source.randint(1, 2)):
        row = source.choice(table)
        at = source.randrange(len(row))
        row[at] = source.choice([None, 0, (row[at] or 0) + 1, (row[at] or 0) - 1, -5])
    return table


class Potentials(unittest.TestCase):
    def test_the_greatest_ones(self):
        self.assertEqual(potentials_of(ONE), [[0], [3, 1], [3]])
        self.assertEqual(potentials_of(TWO), [[0], [2]])
        self.assertEqual(potentials_of(SINGLE), [[0, None]])

    def test_rooms_that_are_not_reached(self):
        self.assertEqual(potentials_of(GAPS), [[0, None], [4, None, None], [None, 11]])
        self.assertEqual(potentials_of(("trellis", (1, 2, 1), [[], []], (0,))), [[0], [None, None], [None]])

    def test_of_many_trellises(self):
        for trellis in trellises(56, 300):
            table = potentials_of(trellis)
            self.assertEqual(table, [
                [min(costs_to(trellis, room, time), default=None) for room in range(width)]
                for time, width in enumerate(trellis[1])
            ])
            self.assertIs(are_right(trellis, table), True)
            # They are the greatest ones: one more at any room is too much.
            for time, row in enumerate(table):
                for room, item in enumerate(row):
                    if item is not None:
                        greater = copy.deepcopy(table)
                        greater[time][room] += 1
                        self.assertIs(are_right(trellis, greater), False)


class Right(unittest.TestCase):
    def test_right_ones(self):
        for table in ([[0], [3, 1], [3]], [[0], [0, 0], [0]], [[0], [3, 1], [-9]], [[0], [-7, -8], [-7]]):
            self.assertIs(are_right(ONE, table), True, table)

    def test_too_great_at_an_edge(self):
        for table in ([[0], [4, 1], [3]], [[0], [3, 2], [3]], [[0], [3, 1], [4]], [[0], [-7, -8], [-5]]):
            self.assertIs(are_right(ONE, table), False, table)

    def test_not_0_at_the_beginning(self):
        for begin in (1, -1, None, 10 ** 30):
            self.assertIs(are_right(ONE, [[begin], [0, 0], [0]]), False)
        self.assertIs(are_right(ONE, [[-1], [-1, -1], [-1]]), False)

    def test_none_where_a_room_is_reached(self):
        for table in ([[0], [None, 1], [3]], [[0], [3, None], [3]], [[0], [3, 1], [None]], [[0], [None, None], [None]]):
            self.assertIs(are_right(ONE, table), False, table)

    def test_where_no_room_is_reached_all_is_free(self):
        for item in (None, 5, -3):
            self.assertIs(are_right(GAPS, [[0, None], [4, item, None], [item, 11]]), True)
        # An integer there counts as the others do.
        self.assertIs(are_right(GAPS, [[0, 2], [4, None, 3], [4, 11]]), True)
        self.assertIs(are_right(GAPS, [[0, 2], [4, None, None], [4, 11]]), False)
        self.assertIs(are_right(GAPS, [[0, 2], [4, None, 3], [5, 11]]), False)
        self.assertIs(are_right(GAPS, [[0, None], [4, None, 3], [None, 11]]), False)
        self.assertIs(are_right(GAPS, [[0, 7], [4, None, 9], [4, 11]]), False)

    def test_too_few_and_too_many(self):
        for table in (
            [], [[0]], [[0], [3, 1]], [[0], [3, 1], [3], []], [[0], [3, 1], [3], [0]], [[], [3, 1], [3]],
            [[0, 0], [3, 1], [3]], [[0], [3], [3]], [[0], [3, 1, 0], [3]], [[0], [3, 1], []], [[0], [3, 1], [3, 3]],
            [[0], [], [3]],
        ):
            self.assertIs(are_right(ONE, table), False, table)

    def test_things_of_any_kind(self):
        for thing in ANY:
            self.assertIs(are_right(ONE, thing), False, thing)
            for at in range(3):
                table = [[0], [0, 0], [0]]
                table[at] = thing
                self.assertIs(are_right(ONE, table), table == [[0], [0, 0], [0]] and thing == [0], thing)
        for thing in (True, False, 0.0, "0", [], [0], (0,)):
            self.assertIs(are_right(ONE, [[thing], [0, 0], [0]]), False, thing)
            self.assertIs(are_right(ONE, [[0], [thing, 0], [0]]), False, thing)
            self.assertIs(are_right(ONE, [[0], [0, 0], [thing]]), False, thing)
            self.assertIs(are_right(GAPS, [[0, thing], [4, None, None], [None, 11]]), False, thing)
        for table in (((0,), (3, 1), (3,)), [(0,), (3, 1), (3,)], ([0], [3, 1], [3])):
            self.assertIs(are_right(ONE, table), False, table)

    def test_one_time(self):
        self.assertIs(are_right(SINGLE, [[0, None]]), True)
        self.assertIs(are_right(SINGLE, [[0, 8]]), True)
        self.assertIs(are_right(SINGLE, [[1, 0]]), False)
        self.assertIs(are_right(SINGLE, []), False)

    def test_of_many_trellises(self):
        source = random.Random(57)
        told = []
        for trellis in trellises(58, 400):
            for _ in range(5):
                table = changed(source, potentials_of(trellis))
                told.append(right_by_hand(trellis, table))
                self.assertIs(are_right(trellis, table), told[-1])
        self.assertGreater(told.count(True), 200)
        self.assertGreater(told.count(False), 200)


class LeastEnd(unittest.TestCase):
    def test_the_least_one_of_the_ends(self):
        self.assertEqual(least_end(ONE, [[0], [3, 1], [-2]]), -2)
        self.assertEqual(least_end(GAPS, [[0, None], [4, None, None], [None, 11]]), 11)
        self.assertEqual(least_end(GAPS, [[0, None], [4, None, None], [12, 11]]), 11)
        self.assertEqual(least_end(GAPS, [[0, None], [4, None, None], [0, 11]]), 0)

    def test_other_rooms_do_not_count(self):
        trellis = ("trellis", (1, 3), [[(0, 0, 0, 1), (0, 1, 1, 7), (0, 2, 2, 9)]], (1, 2))
        self.assertEqual(least_end(trellis, [[0], [1, 7, 9]]), 7)

    def test_none(self):
        self.assertIsNone(least_end(("trellis", (1, 1), [[(0, 0, 0, 1)]], ()), [[0], [1]]))
        self.assertIsNone(least_end(("trellis", (1, 1), [[]], (0,)), [[0], [None]]))
        self.assertEqual(least_end(SINGLE, [[0, None]]), 0)


class Papers(unittest.TestCase):
    def test_one_path(self):
        paper = ("one", [3], [[0], [5, 2]])
        self.assertEqual(paper_of(TWO), paper)
        self.assertEqual(check_paper(TWO, paper), ("one", [3], 2, 3))
        self.assertEqual(check_paper(TWO, ("one", [3], [[0], [4, 0]])), ("one", [3], 2, 2))
        self.assertEqual(check_paper(TWO, ("one", [3], [[0], [3, 2]])), ("one", [3], 2, 1))

    def test_one_path_that_is_not_taken(self):
        for paper in (
            ("one", [3], [[0], [2, 2]]), ("one", [3], [[0], [-9, 2]]),  # the least end is not greater than the cost
            ("one", [3], [[0], [6, 2]]), ("one", [3], [[0], [5, 3]]),  # the potentials are not right
            ("one", [3], [[0], [None, 2]]), ("one", [3], [[0], [5, None]]), ("one", [3], [[1], [5, 2]]),
            ("one", [3], [[0], [5]]), ("one", [3], [[0], [2]]), ("one", [3], potentials_of(TWO)),
            ("one", [0], [[0], [2, 5]]), ("one", [0], [[0], [5, 2]]),  # not the best path
            ("one", [1], [[0], [5, 2]]), ("one", [], [[0], [5, 2]]), ("one", [3, 3], [[0], [5, 2]]),  # no path
        ):
            self.assertIsNone(check_paper(TWO, paper), paper)

    def test_tie(self):
        paper = paper_of(ONE)
        self.assertEqual(paper, ("tie", [0, 0], [1, 0], [[0], [3, 1], [3]]))
        self.assertEqual(check_paper(ONE, paper), ("tie", [0, 0], [1, 0], 3))
        # Not at the ends the potentials may be less.
        self.assertEqual(check_paper(ONE, ("tie", [0, 0], [1, 0], [[0], [3, 1], [3]])), ("tie", [0, 0], [1, 0], 3))

    def test_tie_that_is_not_taken(self):
        table = potentials_of(ONE)
        for labels, other in (
            ([0, 0], [1, 1]), ([1, 1], [0, 0]),  # of different costs
            ([1, 0], [0, 0]),  # in the wrong order
            ([0, 0], [0, 0]), ([1, 0], [1, 0]), ([1, 1], [1, 1]),  # the same path twice
            ([0, 0], [0, 1]), ([0, 1], [1, 0]), ([0], [1, 0]), ([0, 0], [1]), ([], []),  # no path
        ):
            self.assertIsNone(check_paper(ONE, ("tie", labels, other, table)), (labels, other))
        for wrong in (
            [[0], [3, 1], [2]], [[0], [3, 1], [4]], [[0], [3, 1], [None]], [[0], [4, 1], [3]], [[0], [3, 1]], [],
            [[0], [3, None], [3]], potentials_of(apart(ONE, [0, 0])),
        ):
            self.assertIsNone(check_paper(ONE, ("tie", [0, 0], [1, 0], wrong)), wrong)

    def test_paths_that_are_no_best_ones_do_not_tie(self):
        trellis = ("trellis", (1, 1), [[(0, 0, 0, 1), (0, 0, 1, 2), (0, 0, 2, 2)]], (0,))
        for end in (1, 2, 0):
            self.assertIsNone(check_paper(trellis, ("tie", [1], [2], [[0], [end]])))

    def test_any_two_best_paths_tie(self):
        trellis = ("trellis", (1, 1), [[(0, 0, 0, 1), (0, 0, 1, 1), (0, 0, 2, 1)]], (0,))
        self.assertEqual(paper_of(trellis), ("tie", [0], [1], [[0], [1]]))
        for labels, other in (([0], [1]), ([0], [2]), ([1], [2])):
            self.assertEqual(check_paper(trellis, ("tie", labels, other, [[0], [1]])), ("tie", labels, other, 1))

    def test_no_other_path(self):
        trellis = ("trellis", (1, 2), [[(0, 0, 7, 4), (0, 1, 8, 1)]], (0,))
        self.assertEqual(paper_of(trellis), ("one", [7], [[0], [None, 1, 4]]))
        self.assertEqual(check_paper(trellis, paper_of(trellis)), ("one", [7], 4, None))
        # Where no other path comes, the potentials are free.
        self.assertEqual(check_paper(trellis, ("one", [7], [[0], [99, 1, 4]])), ("one", [7], 4, 95))
        self.assertIsNone(check_paper(trellis, ("one", [7], [[0], [4, 1, 4]])))

    def test_no_path_no_paper(self):
        for trellis in (("trellis", (1, 1), [[]], (0,)), ("trellis", (1,), [], ()), ("trellis", (2,), [], (1,))):
            self.assertIsNone(paper_of(trellis))
            width = trellis[1][-1]
            for labels in ([], [0]):
                for table in ([[0]], [[0], [None]], [[0], [None, 0]], [[0], [1]], [[0] + [None] * (width - 1)]):
                    self.assertIsNone(check_paper(trellis, ("one", labels, table)))
                    self.assertIsNone(check_paper(trellis, ("tie", labels, [1], table)))

    def test_one_time(self):
        self.assertEqual(paper_of(SINGLE), ("one", [], [[0]]))
        self.assertEqual(check_paper(SINGLE, ("one", [], [[0]])), ("one", [], 0, None))
        self.assertIsNone(check_paper(SINGLE, ("one", [], [[0, None]])))
        self.assertIsNone(check_paper(SINGLE, ("tie", [], [], [[0, None]])))

    def test_things_of_any_kind(self):
        for trellis in (ONE, TWO, SINGLE):
            for thing in ANY:
                self.assertIsNone(check_paper(trellis, thing), thing)
        for thing in ANY:
            self.assertIsNone(check_paper(TWO, (thing, [3], [[0], [5, 2]])) if thing != "one" else None, thing)
            self.assertIsNone(check_paper(TWO, ("one", thing, [[0], [5, 2]])), thing)
            self.assertIsNone(check_paper(TWO, ("one", [thing], [[0], [5, 2]])), thing)
            self.assertIsNone(check_paper(TWO, ("one", [3], thing)), thing)
            self.assertIsNone(check_paper(ONE, ("tie", thing, [1, 0], [[0], [3, 1], [3]])), thing)
            self.assertIsNone(check_paper(ONE, ("tie", [0, 0], thing, [[0], [3, 1], [3]])), thing)
            self.assertIsNone(check_paper(ONE, ("tie", [0, 0], [1, 0], thing)), thing)
        right, tie = ("one", [3], [[0], [5, 2]]), paper_of(ONE)
        for paper in (
            list(right), right[:2], right + (3,), ("tie",) + right[1:], ("One",) + right[1:], ("one", (3,), right[2]),
            (b"one",) + right[1:], ("one", right[2], right[1]),
        ):
            self.assertIsNone(check_paper(TWO, paper), paper)
        for paper in (
            list(tie), tie[:3], tie + (3,), ("one",) + tie[1:], ("one", tie[1], tie[3]), ("tie", (0, 0)) + tie[2:],
            ("tie", [0, 0], (1, 0), tie[3]), ("tie", [False, 0], [1, 0], tie[3]), ("tie", [0, 0], [True, 0], tie[3]),
        ):
            self.assertIsNone(check_paper(ONE, paper), paper)
        self.assertIsNone(check_paper(("trellis", (1, 1), [[(0, 0, 1, 2)]], (0,)), ("one", [True], [[0], [None, 2]])))

    def test_papers_of_many_trellises(self):
        kinds = []
        for trellis in trellises(59, 400, most_cost=2):
            ranked = two_best(trellis)
            paper = paper_of(trellis)
            if not ranked:
                self.assertIsNone(paper)
                continue
            labels, cost = ranked[0]
            shown = check_paper(trellis, paper)
            if len(ranked) > 1 and ranked[1][1] == cost:
                self.assertEqual(paper, ("tie", labels, ranked[1][0], potentials_of(trellis)))
                self.assertEqual(shown, ("tie", labels, ranked[1][0], cost))
            else:
                self.assertEqual(paper, ("one", labels, potentials_of(apart(trellis, labels))))
                self.assertEqual(shown, ("one", labels, cost, ranked[1][1] - cost if len(ranked) > 1 else None))
            kinds.append(shown[0])
        self.assertGreater(min(kinds.count("one"), kinds.count("tie")), 50)

    def test_whoever_made_them_papers_that_are_taken_show_what_is_true(self):
        source = random.Random(60)
        taken = 0
        for trellis in trellises(61, 250, most_cost=2):
            paths = paths_through(trellis)
            least = min([cost for _, cost in paths], default=None)
            for labels, cost in paths:
                for table in (potentials_of(apart(trellis, labels)), potentials_of(trellis)):
                    for _ in range(3):
                        taken += self.one_is_true(trellis, paths, labels, cost, changed(source, table))
                for other, _ in paths[:4]:
                    shown = check_paper(trellis, ("tie", labels, other, changed(source, potentials_of(trellis))))
                    if shown is not None:
                        self.assertEqual(shown, ("tie", labels, other, least))
                        self.assertEqual((cost, cost_of(trellis, other)), (least, least))
                        self.assertLess(labels, other)
        self.assertGreater(taken, 50)

    def one_is_true(self, trellis, paths, labels, cost, table):
        shown = check_paper(trellis, ("one", labels, table))
        if shown is None:
            return False
        others = [spent for path, spent in paths if path != labels]
        self.assertEqual(shown[:3], ("one", labels, cost))
        if others:
            self.assertTrue(0 < shown[3] <= min(others) - cost)
        else:
            self.assertTrue(shown[3] is None or shown[3] > 0)
        return True


class Kept(unittest.TestCase):
    def test_arguments_stay_and_results_are_new(self):
        for trellis in [ONE, TWO, GAPS, SINGLE] + trellises(62, 40):
            table = potentials_of(trellis)
            stands_alone(self, potentials_of, trellis)
            stands_alone(self, are_right, trellis, table)
            stands_alone(self, least_end, trellis, table)
            stands_alone(self, paper_of, trellis)
            stands_alone(self, check_paper, trellis, paper_of(trellis))
            stands_alone(self, check_paper, trellis, ("one", [[0]], [[0], [0]]))


if __name__ == "__main__":
    unittest.main()
