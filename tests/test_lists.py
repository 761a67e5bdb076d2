"""Points 23.1 to 23.4: lists of rows."""

import copy
import random
import unittest

from heardtrue.lines import lost, spoiled
from heardtrue.lists import apart_from, best_paths, check_heard, check_list, hear_list, list_paper, paths_within
from heardtrue.potentials import are_right, least_end, potentials_of
from heardtrue.runs import run_samples
from heardtrue.smears import run_size, trellis_of
from heardtrue.trellises import apart, check_trellis
from slow import HALF, LONE, SHIFT, any_samples, cases, cost_by_hand
from support import any_points, any_trellis, changeable, fault, line_of, paths_through, stands_alone, trellises

ONE, LINE = line_of((1, 0)), line_of((1, 0), (1, 0))
ANY = [
    None, True, False, 0, 1, -1, "", "list", [], (), {}, [0], [[0]], [[]], ("list",), ("list", [], None), ["list", [], []],
    ("one", [0], [[0]]), 1.0, b"list",
]
TRELLIS = ("trellis", (1, 2, 1), [[(0, 0, 0, 3), (0, 1, 1, 1)], [(0, 0, 0, 0), (1, 0, 0, 2), (1, 0, 1, 4)]], (0,))


def ranked_by_hand(trellis):
    """Point 23.1: all paths, ranked."""
    return [(labels, spent) for spent, labels in sorted((spent, labels) for labels, spent in paths_through(trellis))]


def some_trellises(seed, many):
    """Trellises of any kind: gaps, several times, one time alone, many paths and none."""
    source = random.Random(seed)
    found = trellises(seed, many)
    found += [any_trellis(source, 6, 3, 1) for _ in range(many // 3)]
    found += [("trellis", (1,), [], (0,)), ("trellis", (3,), [], (0, 2)), ("trellis", (2,), [], ()), ("trellis", (3,), [], (1, 2))]
    return found


def apart_by_hand(trellis, paths):
    """Point 23.2, by its words."""
    _, widths, layers, ends = trellis
    if not paths:
        return trellis
    stems = [sorted({tuple(path[:time]) for path in paths}) for time in range(len(widths))]

    def room_of(stem):
        room = 0
        for layer, label in zip(layers, stem):
            room = [after for at, after, told, _ in layer if (at, told) == (room, label)][0]
        return room

    wider, told = [1], []
    for time in range(1, len(widths)):
        wider.append(widths[time] + len(stems[time]))
    for time, layer in enumerate(layers):
        edges = list(layer) if time > 0 else []
        for number, stem in enumerate(stems[time]):
            here = widths[time] + number if time > 0 else 0
            for at, after, label, cost in layer:
                if at == room_of(stem):
                    longer = stem + (label,)
                    there = widths[time + 1] + stems[time + 1].index(longer) if longer in stems[time + 1] else after
                    edges.append((here, there, label, cost))
        told.append(edges)
    return ("trellis", tuple(wider), told, ends if layers else ())


class First(unittest.TestCase):
    def test_by_hand(self):
        self.assertEqual(best_paths(TRELLIS, 1), [([0, 0], 3)])
        self.assertEqual(best_paths(TRELLIS, 2), [([0, 0], 3), ([1, 0], 3)])
        for many in (3, 4, 100):
            self.assertEqual(best_paths(TRELLIS, many), [([0, 0], 3), ([1, 0], 3), ([1, 1], 5)])
        self.assertEqual(best_paths(("trellis", (1,), [], (0,)), 5), [([], 0)])
        self.assertEqual(best_paths(("trellis", (1,), [], ()), 5), [])

    def test_by_all_paths(self):
        equal = 0
        for trellis in some_trellises(420, 300):
            ranked = ranked_by_hand(trellis)
            equal += any(one[1] == other[1] for one, other in zip(ranked, ranked[1:]))
            for many in (1, 2, 3, 5, len(ranked), len(ranked) + 1, 1000):
                self.assertEqual(best_paths(trellis, many or 1), ranked[:many or 1])
        self.assertGreater(equal, 60)

    def test_all_paths_of_one_cost(self):
        layers = [[(0, 0, label, 1) for label in range(4)] for _ in range(4)]
        trellis = ("trellis", (1,) * 5, layers, (0,))
        ranked = ranked_by_hand(trellis)
        self.assertEqual(len(ranked), 256)
        for many in (1, 7, 255, 256, 300):
            self.assertEqual(best_paths(trellis, many), ranked[:many])
        self.assertEqual(paths_within(trellis, 4, 256), ranked)
        self.assertIsNone(paths_within(trellis, 4, 255))
        self.assertEqual(paths_within(trellis, 3, 0), [])

    def test_long_trellises(self):
        layers = [[(0, 0, 0, 0), (0, 1, 1, 2), (1, 0, 0, 1), (1, 1, 3, 0)] for _ in range(600)]
        trellis = ("trellis", (1,) + (2,) * 600, [layers[0][:2]] + layers[1:], (0, 1))
        told = best_paths(trellis, 50)
        self.assertEqual(told[0], ([0] * 600, 0))
        # The paths that cost 2 part at some place, and stay there.
        self.assertEqual([spent for _, spent in told], [0] + [2] * 49)
        self.assertEqual(told[1][0], [0] * 599 + [1])
        self.assertEqual(told[1:], sorted(told[1:]))
        self.assertEqual(len(paths_within(trellis, 2, 700)), 601)


class Within(unittest.TestCase):
    def test_by_hand(self):
        self.assertEqual(paths_within(TRELLIS, 2, 0), [])
        self.assertIsNone(paths_within(TRELLIS, 3, 0))
        self.assertIsNone(paths_within(TRELLIS, 3, 1))
        self.assertEqual(paths_within(TRELLIS, 3, 2), [([0, 0], 3), ([1, 0], 3)])
        self.assertEqual(paths_within(TRELLIS, 4, 2), [([0, 0], 3), ([1, 0], 3)])
        self.assertIsNone(paths_within(TRELLIS, 5, 2))
        self.assertEqual(paths_within(TRELLIS, 5, 3), [([0, 0], 3), ([1, 0], 3), ([1, 1], 5)])
        self.assertEqual(paths_within(TRELLIS, -1, 0), [])

    def test_by_all_paths(self):
        for trellis in some_trellises(421, 250):
            ranked = ranked_by_hand(trellis)
            for cost in range(-1, 9):
                told = [pair for pair in ranked if pair[1] <= cost]
                for most in {0, 1, max(0, len(told) - 1), len(told), len(told) + 1, 999}:
                    self.assertEqual(paths_within(trellis, cost, most), told if len(told) <= most else None)


class Apart(unittest.TestCase):
    def test_by_hand(self):
        self.assertEqual(apart_from(TRELLIS, [[0, 0], [1, 0]])[1:], (
            (1, 4, 3), [[(0, 2, 0, 3), (0, 3, 1, 1)], [(0, 0, 0, 0), (1, 0, 0, 2), (1, 0, 1, 4), (2, 1, 0, 0), (3, 2, 0, 2), (3, 0, 1, 4)]],
            (0,)))
        self.assertEqual(apart_from(TRELLIS, []), TRELLIS)
        self.assertEqual(apart_from(("trellis", (3,), [], (0, 2)), [[]]), ("trellis", (1,), [], ()))
        self.assertEqual(apart_from(("trellis", (3,), [], (0, 2)), []), ("trellis", (3,), [], (0, 2)))

    def test_whole(self):
        source = random.Random(422)
        shared = 0
        for trellis in some_trellises(423, 250):
            paths = [labels for labels, _ in paths_through(trellis)]
            for many in {0, 1, 2, 3, len(paths)}:
                if many <= len(paths):
                    some = source.sample(paths, many)
                    told = apart_from(trellis, some)
                    self.assertEqual(told, apart_by_hand(trellis, some))
                    check_trellis(told)
                    shared += many > 1 and len({tuple(path[:1]) for path in some}) < many
                    # The same paths but these, with the same costs.
                    left = [pair for pair in paths_through(trellis) if pair[0] not in some]
                    self.assertEqual(sorted(paths_through(told)), sorted(left))
                    if many == 1:
                        self.assertEqual(told, apart(trellis, some[0]))
        self.assertGreater(shared, 40)


def right_by_hand(trellis, cost, paths, table):
    """Point 23.3, by its words, for lists of labels."""
    costs = dict((tuple(labels), spent) for labels, spent in paths_through(trellis))
    if any(tuple(path) not in costs or costs[tuple(path)] > cost for path in paths):
        return False
    ranks = [(costs[tuple(path)], path) for path in paths]
    if ranks != sorted(ranks) or len(ranks) != len({tuple(path) for path in paths}):
        return False
    others = apart_by_hand(trellis, paths)
    least = least_end(others, table) if are_right(others, table) else -1
    return least is None or (least > cost and are_right(others, table))


class Papers(unittest.TestCase):
    def test_by_hand(self):
        self.assertEqual(check_list(TRELLIS, 4, list_paper(TRELLIS, 4, 9)), [([0, 0], 3), ([1, 0], 3)])
        self.assertEqual(list_paper(TRELLIS, 2, 0), ("list", [], [[0], [3, 1], [3]]))
        self.assertEqual(check_list(TRELLIS, 2, ("list", [], [[0], [3, 1], [3]])), [])
        self.assertIsNone(check_list(TRELLIS, 3, ("list", [], [[0], [3, 1], [3]])))
        self.assertIsNone(list_paper(TRELLIS, 4, 1))
        whole = list_paper(TRELLIS, 5, 3)
        self.assertEqual(whole[2], [[0], [None, None, 3, 1], [None, 3, 3, 5]])

    def test_what_is_within_is_shown(self):
        for trellis in some_trellises(424, 250):
            for cost in (-1, 0, 1, 2, 4, 7):
                told = paths_within(trellis, cost, 999)
                paper = list_paper(trellis, cost, 999)
                self.assertEqual(paper, ("list", [labels for labels, _ in told], potentials_of(apart_from(trellis, [p for p, _ in told]))))
                self.assertEqual(check_list(trellis, cost, paper), told)
                self.assertEqual(list_paper(trellis, cost, len(told)), paper)
                if told:
                    self.assertIsNone(list_paper(trellis, cost, len(told) - 1))
                # It shows the same for another number, as long as no path lies between.
                for more in (cost - 1, cost + 1):
                    shown = check_list(trellis, more, paper)
                    self.assertEqual(shown, told if paths_within(trellis, more, 999) == told else None)

    def test_paths_left_out_doubled_out_of_order_and_too_dear(self):
        for trellis in some_trellises(425, 150):
            ranked = ranked_by_hand(trellis)
            for cost in (1, 3, 5):
                paths = [labels for labels, spent in ranked if spent <= cost]
                for at in range(min(len(paths), 4)):
                    wrong = [paths[:at] + paths[at + 1:], paths[:at + 1] + paths[at:], paths[:at] + paths[at + 1:] + [paths[at]]]
                    wrong += [paths[:at] + [tuple(paths[at])] + paths[at + 1:], paths[:at] + [paths[at] + [0]] + paths[at + 1:]]
                    wrong += [paths[:at] + [None] + paths[at + 1:], paths[:at] + [[9] * len(paths[at])] + paths[at + 1:]]
                    for told in wrong:
                        if told != paths:
                            for table in (list_paper(trellis, cost, 999)[2], self.table_of(trellis, told)):
                                self.assertIsNone(check_list(trellis, cost, ("list", told, table)), told)
                dear = paths + [labels for labels, _ in ranked[len(paths):len(paths) + 1]]
                if len(dear) > len(paths):
                    self.assertIsNone(check_list(trellis, cost, ("list", dear, potentials_of(apart_from(trellis, dear)))))

    def table_of(self, trellis, paths):
        try:
            return potentials_of(apart_from(trellis, [list(path) for path in paths]))
        except (KeyError, IndexError, TypeError):
            return []

    def test_things_of_any_kind(self):
        for trellis in some_trellises(426, 60):
            paper = list_paper(trellis, 3, 999)
            for thing in ANY + [list(paper), paper[:2], paper + (0,), ("List",) + paper[1:]]:
                self.assertIsNone(check_list(trellis, 3, thing), thing)
            for at in range(3):
                for thing in ANY:
                    wrong = paper[:at] + (thing,) + paper[at + 1:]
                    shown = check_list(trellis, 3, wrong)
                    self.assertTrue(shown is None or wrong == paper, (trellis, wrong))
            if len(paper[1]) > 0 and paper[1][0]:
                told = [[True if label == 1 else False if label == 0 else label for label in path] for path in paper[1]]
                shown = check_list(trellis, 3, ("list", told, paper[2]))
                self.assertEqual(shown is None, any(label in (0, 1) for path in told for label in path))
        self.assertIsNone(check_list(TRELLIS, 4, ("list", ((0, 0), (1, 0)), list_paper(TRELLIS, 4, 9)[2])))
        self.assertIsNone(check_list(TRELLIS, 4, ("list", ([0, 0], [1, 0]), list_paper(TRELLIS, 4, 9)[2])))

    def test_changed_papers_show_the_same_paths_or_nothing(self):
        source = random.Random(427)
        taken = refused = 0
        for trellis in some_trellises(428, 200):
            cost = source.randint(0, 5)
            paper = list_paper(trellis, cost, 999)
            wanted = paths_within(trellis, cost, 999)
            for _ in range(8):
                changed = copy.deepcopy(paper)
                part = source.choice([part for part in changeable(changed) if part] or [[0]])
                at = source.randrange(len(part))
                if not isinstance(part[at], list):
                    part[at] = source.choice((None, 0, 1, (part[at] or 0) - 1, (part[at] or 0) + 1))
                shown = check_list(trellis, cost, changed)
                self.assertIn(shown, (None, wanted))
                self.assertEqual(shown is not None, right_by_hand(trellis, cost, changed[1], changed[2]))
                taken += shown is not None
                refused += shown is None
        self.assertGreater(min(taken, refused), 100)


class Rows(unittest.TestCase):
    def ranked(self, slow, samples):
        """All rows by their costs and their labels."""
        costs = [(cost_by_hand(samples, run[3]), run[0], row) for run, row in zip(slow.runs, slow.rows())]
        return [(row, spent) for spent, _, row in sorted(costs)]

    def test_by_a_slow_search(self):
        source = random.Random(429)
        sizes = set()
        for sender, line, blocks, slow in cases(430, 40):
            for samples in (any_samples(source, slow.size()), spoiled(slow.runs[-1][3], any_points(source, slow.size(), 1))):
                ranked = self.ranked(slow, samples)
                for cost in {0, ranked[0][1], ranked[0][1] - 1, ranked[len(ranked) // 2][1], ranked[-1][1], source.randint(0, 200)}:
                    told = [pair for pair in ranked if pair[1] <= cost]
                    rows, paper = hear_list(sender, line, blocks, samples, cost=cost, most=len(told))
                    self.assertEqual(rows, told)
                    self.assertEqual(paper, list_paper(trellis_of(sender, line, blocks, samples), cost, len(told)))
                    self.assertEqual(check_heard(sender, line, blocks, samples, cost=cost, paper=paper), told)
                    sizes.add(min(len(told), 4))
                    if told:
                        self.assertEqual(hear_list(sender, line, blocks, samples, cost=cost, most=len(told) - 1), (None, None))
        self.assertEqual(sizes, {0, 1, 2, 3, 4})

    def test_by_hand(self):
        samples = [(1, 0), (0, 0), None]
        self.assertEqual(hear_list(LONE, ONE, 3, samples, cost=1, most=4)[0],
                         [([1, 0, 0], 1), ([1, 0, 1], 1), ([1, 1, 0], 1), ([1, 1, 1], 1)])
        self.assertEqual(hear_list(LONE, ONE, 3, samples, cost=1, most=3), (None, None))
        self.assertEqual(hear_list(LONE, ONE, 3, samples, cost=0, most=0), ([], ("list", [], [[0], [0], [1], [1], [1]])))
        self.assertEqual(hear_list(LONE, ONE, 0, [], cost=0, most=1)[0], [([], 0)])

    def test_things_of_any_kind(self):
        samples = lost(run_samples(HALF, LINE, [1, 0]), [1])
        rows, paper = hear_list(HALF, LINE, 1, samples, cost=20, most=9)
        for thing in ANY + [list(paper), paper[:2]]:
            self.assertIsNone(check_heard(HALF, LINE, 1, samples, cost=20, paper=thing))
        self.assertEqual(check_heard(HALF, LINE, 1, samples, cost=20, paper=paper), rows)

    def test_samples(self):
        for sender in (LONE, HALF, SHIFT):
            right = run_size(sender, LINE, 2)
            for many in list(range(right)) + [right + 1, right + 5]:
                samples = [(0, 0)] * many

                def hear():
                    hear_list(sender, LINE, 2, samples, cost=9, most=3)

                self.assertEqual(fault(hear), "samples")
                for thing in ANY:
                    self.assertEqual(fault(lambda: check_heard(sender, LINE, 2, samples, cost=9, paper=thing)), "samples")


class Kept(unittest.TestCase):
    def test_arguments_stay_and_results_are_new(self):
        for trellis in some_trellises(431, 15):
            paths = [labels for labels, _ in paths_through(trellis)][:3]
            stands_alone(self, best_paths, trellis, 3)
            stands_alone(self, paths_within, trellis, 4, 99)
            stands_alone(self, apart_from, trellis, paths)
            stands_alone(self, apart_from, trellis, [])
            stands_alone(self, list_paper, trellis, 4, 99)
            stands_alone(self, check_list, trellis, 4, list_paper(trellis, 4, 99))
            stands_alone(self, check_list, trellis, 4, ["list", [[0]]])
        for sender, line, blocks, slow in cases(432, 6, 8):
            samples = slow.runs[-1][3]
            stands_alone(self, lambda told: hear_list(sender, line, blocks, told, cost=40, most=99), samples)
            paper = hear_list(sender, line, blocks, samples, cost=40, most=99)[1]
            stands_alone(self, lambda told, given: check_heard(sender, line, blocks, told, cost=40, paper=given), samples, paper)


if __name__ == "__main__":
    unittest.main()
