"""Points 22.5 and 22.6: papers of lines that were learnt, and their trees."""

import copy
import random
import unittest

from heardtrue.learning import learn
from heardtrue.learnt import check_learnt
from slowlearning import SlowTrees, cost_of_taps, costs_in_box, learning_cases, tells_apart_by_hand, verdict_by_hand

ANY = [
    None, True, False, 0, 1, -1, "", "line", "tie", [], (), {}, [0], ((1, 0),), [((1, 0),)], ("line",), ("tie",), ("line", None, None),
    ("line", ((1, 0),), [("cut", -1, 1)]), ("tie", ((1, 0),), ((0, 1),), []), ["line", ((1, 0),), []], 1.0, b"line",
]
POINTS, BOUND = ((1, 0), (0, 2)), 2


def apart_cases(seed, many):
    return [case for case in learning_cases(seed, many) if tells_apart_by_hand(case[0], case[1], case[3])]


def paths_of(tree, path=()):
    """The paths to all lists of parts in a tree."""
    found = [path]
    for at, part in enumerate(tree):
        if part[0] == "take" and part[2] is not None:
            found += paths_of(part[2], path + (at,))
    return found


def at_path(tree, path):
    for at in path:
        tree = tree[at][2]
    return tree


def with_list(tree, path, parts):
    """The tree with another list of parts at a path."""
    if not path:
        return parts
    at = path[0]
    inner = with_list(tree[at][2], path[1:], parts)
    return tree[:at] + [("take", tree[at][1], inner)] + tree[at + 1:]


def singles(tree):
    """The tree with each cut made of single values."""
    parts = []
    for part in tree:
        if part[0] == "cut":
            parts += [("cut", value, value) for value in range(part[1], part[2] + 1)]
        else:
            parts.append(("take", part[1], None if part[2] is None else singles(part[2])))
    return parts


class Taken(unittest.TestCase):
    def test_by_hand(self):
        # One point, one tap: the cost is (x - 2) ** 2 + (y - 1) ** 2; the second part is looked at first.
        points, samples = ((1, 0),), [(2, 1)]
        tree = [("cut", -2, 0), ("take", 1, [("cut", -2, 1), ("take", 2, None)]), ("cut", 2, 2)]
        self.assertEqual(learn(points, 1, 2, samples), (("line", ((2, 1),), 0), ("line", ((2, 1),), tree)))
        self.assertEqual(check_learnt(points, 1, 2, samples, ("line", ((2, 1),), tree)), ("line", ((2, 1),), 0))
        # More may be taken than must be.
        inner = [("take", value, None) for value in (-2, -1, 0, 1, 2)]
        whole = [("take", value, inner) for value in (-2, -1, 0, 1, 2)]
        self.assertEqual(check_learnt(points, 1, 2, samples, ("line", ((2, 1),), whole)), ("line", ((2, 1),), 0))
        # Nothing else than the nearest line is shown so.
        for x in range(-2, 3):
            for y in range(-2, 3):
                for tree in (whole, [("cut", -2, 2)], [("cut", -2, y - 1)] * (y > -2) + [("take", y, inner)] + [("cut", y + 1, 2)] * (y < 2)):
                    shown = check_learnt(points, 1, 2, samples, ("line", ((x, y),), tree))
                    self.assertEqual(shown is not None, (x, y) == (2, 1) and tree[0] != ("cut", -2, 2))

    def test_the_line_that_makes_nothing_may_be_nearer(self):
        points, samples = ((3, 0),), [(1, 1)]
        verdict, paper = learn(points, 1, 1, samples)
        self.assertEqual(verdict, ("tie", ((0, 1),), ((1, 0),), 5))
        # (0, 0) costs 2 and must be taken.
        self.assertEqual(paper[3], [("cut", -1, -1), ("take", 0, [("cut", -1, -1), ("take", 0, None), ("take", 1, None)]),
                                    ("take", 1, [("cut", -1, -1), ("take", 0, None), ("cut", 1, 1)])])

    def test_what_learn_returns_and_other_trees_for_it(self):
        for points, taps, bound, samples in apart_cases(410, 120):
            verdict, paper = learn(points, taps, bound, samples)
            self.assertEqual(check_learnt(points, taps, bound, samples, paper), verdict)
            for tree in (singles(paper[-1]), SlowTrees(points, taps, bound, samples).tree(verdict[1])):
                self.assertEqual(check_learnt(points, taps, bound, samples, paper[:-1] + (tree,)), verdict)

    def test_a_tie_of_any_two_nearest_lines(self):
        many = 0
        for points, taps, bound, samples in apart_cases(411, 200):
            verdict, paper = learn(points, taps, bound, samples)
            if verdict[0] != "tie":
                continue
            nearest = [told for cost, told in costs_in_box(points, taps, bound, samples) if cost == verdict[3]]
            many += len(nearest) > 2
            for one in nearest[:6]:
                for other in nearest[:6]:
                    shown = check_learnt(points, taps, bound, samples, ("tie", one, other, paper[3]))
                    self.assertEqual(shown, ("tie", one, other, verdict[3]) if one < other else None)
                self.assertIsNone(check_learnt(points, taps, bound, samples, ("line", one, paper[3])))
        self.assertGreater(many, 5)


class Refused(unittest.TestCase):
    def cases(self, seed):
        for points, taps, bound, samples in apart_cases(seed, 60):
            verdict, paper = learn(points, taps, bound, samples)
            yield points, taps, bound, samples, verdict, paper

    def test_things_of_any_kind(self):
        for points, taps, bound, samples, verdict, paper in self.cases(412):
            wrong = list(ANY) + [list(paper), paper[:-1], paper + (paper[-1],), paper[:1] + paper[2:], ("frame",) + paper[1:]]
            for at in range(len(paper)):
                wrong += [paper[:at] + (thing,) + paper[at + 1:] for thing in ANY if (at, thing) != (0, paper[0])]
            for thing in wrong:
                shown = check_learnt(points, taps, bound, samples, thing)
                self.assertTrue(shown is None or shown == verdict, thing)
                if thing not in (("line", ((1, 0),), [("cut", -1, 1)]),):
                    self.assertTrue(shown is None or thing[1:-1] == paper[1:-1], thing)

    def test_told_taps_that_are_no_line_of_the_box(self):
        for points, taps, bound, samples, verdict, paper in self.cases(413):
            right = paper[1]
            for told in (((0, 0),) * taps, right + ((0, 0),), right[1:], list(right), tuple(list(tap) for tap in right),
                         tuple((bound + 1, y) for _, y in right), tuple((x, -bound - 1) for x, _ in right),
                         tuple((float(x), y) for x, y in right), tuple((x, y, 0) for x, y in right), (None,) * taps):
                self.assertIsNone(check_learnt(points, taps, bound, samples, paper[:1] + (told,) + paper[2:]))
                if paper[0] == "tie":
                    self.assertIsNone(check_learnt(points, taps, bound, samples, paper[:2] + (told,) + paper[3:]))
                    self.assertIsNone(check_learnt(points, taps, bound, samples, ("tie", paper[1], paper[1], paper[3])))
                    self.assertIsNone(check_learnt(points, taps, bound, samples, ("tie", paper[2], paper[1], paper[3])))

    def test_true_in_the_place_of_1(self):
        points, samples = ((1, 0),), [(1, 1)]
        verdict, paper = learn(points, 1, 1, samples)
        tree = [("cut", -1, 0), ("take", 1, [("cut", -1, 0), ("take", 1, None)])]
        self.assertEqual(paper, ("line", ((1, 1),), tree))
        for wrong in (
            ("line", ((True, 1),), tree), ("line", ((1, True),), tree), ("line", ((1, 1),), [tree[0], ("take", True, tree[1][2])]),
            ("line", ((1, 1),), [("cut", -1, False), tree[1]]),
            ("line", ((1, 1),), [tree[0], ("take", 1, [("cut", -1, 0), ("take", True, None)])]),
        ):
            self.assertEqual(wrong, paper)
            self.assertIsNone(check_learnt(points, 1, 1, samples, wrong))

    def refuses(self, case, tree):
        points, taps, bound, samples, _, paper = case
        self.assertIsNone(check_learnt(points, taps, bound, samples, paper[:-1] + (tree,)), tree)

    def test_parts_left_out_doubled_moved_and_out_of_order(self):
        for case in self.cases(414):
            tree = case[5][-1]
            for path in paths_of(tree):
                parts = at_path(tree, path)
                for at in range(len(parts)):
                    self.refuses(case, with_list(tree, path, parts[:at] + parts[at + 1:]))
                    self.refuses(case, with_list(tree, path, parts[:at + 1] + parts[at:]))
                    if at:
                        self.refuses(case, with_list(tree, path, parts[:at - 1] + [parts[at], parts[at - 1]] + parts[at + 1:]))
                    if parts[at][0] == "cut":
                        name, first, last = parts[at]
                        for wrong in ((first - 1, last), (first + 1, last), (first, last - 1), (first, last + 1), (last + 1, first)):
                            self.refuses(case, with_list(tree, path, parts[:at] + [(name, *wrong)] + parts[at + 1:]))
                        self.refuses(case, with_list(tree, path, parts[:at] + [(name, first, first - 1)] + parts[at:]))
                    else:
                        for value in (parts[at][1] - 1, parts[at][1] + 1, None, str(parts[at][1])):
                            told = ("take", value, parts[at][2])
                            self.refuses(case, with_list(tree, path, parts[:at] + [told] + parts[at + 1:]))
                self.refuses(case, with_list(tree, path, parts + [("cut", case[2] + 1, case[2] + 1)]))
                self.refuses(case, with_list(tree, path, [("cut", -case[2] - 1, -case[2] - 1)] + parts))
                self.refuses(case, with_list(tree, path, parts[::-1]) if len(parts) > 1 else [])
                self.refuses(case, with_list(tree, path, []))
                self.refuses(case, with_list(tree, path, tuple(parts)))

    def test_a_value_cut_off_that_must_be_taken(self):
        for case in self.cases(415):
            tree = case[5][-1]
            for path in paths_of(tree):
                parts = at_path(tree, path)
                for at, part in enumerate(parts):
                    if part[0] == "take":
                        told = parts[:at] + [("cut", part[1], part[1])] + parts[at + 1:]
                        self.refuses(case, with_list(tree, path, told))
                if len(parts) > 1 or parts[0][0] == "take":
                    self.refuses(case, with_list(tree, path, [("cut", -case[2], case[2])]))

    def test_none_in_other_places(self):
        for case in self.cases(416):
            tree = case[5][-1]
            for path in paths_of(tree):
                parts = at_path(tree, path)
                for at, part in enumerate(parts):
                    for thing in (None, [], (), 0, False, [None], [("cut", -case[2], case[2])]):
                        if part[0] == "take" and thing != part[2]:
                            told = parts[:at] + [("take", part[1], thing)] + parts[at + 1:]
                            if thing is None or part[2] is None or thing != [("cut", -case[2], case[2])]:
                                self.refuses(case, with_list(tree, path, told))
                        self.refuses(case, with_list(tree, path, parts[:at] + [thing] + parts[at + 1:]))
                    self.refuses(case, with_list(tree, path, parts[:at] + [part[:2]] + parts[at + 1:]))
                    self.refuses(case, with_list(tree, path, parts[:at] + [part + (None,)] + parts[at + 1:]))
                    self.refuses(case, with_list(tree, path, parts[:at] + [list(part)] + parts[at + 1:]))
                    self.refuses(case, with_list(tree, path, parts[:at] + [("keep",) + part[1:]] + parts[at + 1:]))

    def test_a_tie_for_one_line_and_one_line_for_a_tie(self):
        for points, taps, bound, samples, verdict, paper in self.cases(417):
            ranked = costs_in_box(points, taps, bound, samples)
            for (cost, one), (more, other) in zip(ranked, ranked[1:5]):
                first, second = sorted((one, other))
                shown = check_learnt(points, taps, bound, samples, ("tie", first, second, paper[-1]))
                self.assertEqual(shown is not None, cost == more == ranked[0][0])

    def test_whatever_tree_is_taken_the_nearest_line_is_shown(self):
        source = random.Random(418)
        taken = 0
        for points, taps, bound, samples in apart_cases(419, 150):
            ranked = costs_in_box(points, taps, bound, samples)
            slow = SlowTrees(points, taps, bound, samples)
            told = source.choice(ranked[:4])[1]
            tree = self.wilder(source, slow.tree(told), bound)
            shown = check_learnt(points, taps, bound, samples, ("line", told, tree))
            right = verdict_by_hand(ranked)
            self.assertIn(shown, (None, right))
            self.assertTrue(shown is None or right[0] == "line")
            taken += shown is not None
            near = sorted(source.sample([told for _, told in ranked[:4]], 2))
            shown = check_learnt(points, taps, bound, samples, ("tie", *near, tree))
            if shown is not None:
                self.assertEqual((right[0], shown), ("tie", ("tie", *near, right[3])))
                self.assertEqual([cost_of_taps(points, one, samples) for one in near], [right[3]] * 2)
                taken += 1
        self.assertGreater(taken, 20)

    def wilder(self, source, tree, bound):
        """The tree with some single values joined, or others taken."""
        tree = copy.deepcopy(tree)
        if source.random() < 0.3:
            part = source.randrange(len(tree))
            if tree[part][0] == "take" and tree[part][2] is not None:
                tree[part] = ("take", tree[part][1], self.wilder(source, tree[part][2], bound))
        parts = []
        for part in tree:
            if parts and part[0] == parts[-1][0] == "cut" and source.random() < 0.5:
                parts[-1] = ("cut", parts[-1][1], part[2])
            else:
                parts.append(part)
        return parts


if __name__ == "__main__":
    unittest.main()
