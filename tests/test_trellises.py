"""Points 5.1 to 5.3: trellises, best paths, and the trellis apart from a path."""

import copy
import itertools
import unittest

from heardtrue.trellises import apart, best_path, check_trellis, cost_of, is_trellis, two_best
from support import fault, paths_through, stands_alone, trellises

ONE = ("trellis", (1, 2, 1), [[(0, 0, 0, 3), (0, 1, 1, 1)], [(0, 0, 0, 0), (1, 0, 0, 2), (1, 0, 1, 4)]], (0,))


class Kinds(unittest.TestCase):
    def right(self, thing):
        self.assertIs(is_trellis(thing), True, thing)
        self.assertIsNone(check_trellis(thing))

    def wrong(self, thing):
        self.assertIs(is_trellis(thing), False, thing)
        self.assertEqual(fault(check_trellis, thing), "trellis", thing)

    def with_edges(self, *edges, widths=(3, 3)):
        return ("trellis", widths, [list(edges)], (0,))

    def test_right_ones(self):
        self.right(ONE)
        self.right(("trellis", (1,), [], (0,)))
        self.right(("trellis", (5,), [], ()))
        self.right(("trellis", (2, 1, 3), [[], []], (0, 1, 2)))
        self.right(("trellis", (1, 1), [[(0, 0, 10 ** 30, 10 ** 40)]], (0,)))
        self.right(("trellis", (1, 2), [[(0, 1, 0, 0), (0, 1, 5, 0), (0, 0, 7, 0)]], (1,)))
        for trellis in trellises(51, 200):
            self.right(trellis)

    def test_other_words_and_lengths(self):
        for word in ("trelliss", "", None, 0, True, b"trellis", ["trellis"], ("trellis",)):
            self.wrong((word,) + ONE[1:])
        for thing in (None, 0, True, "trellis", [], {}, (), ONE[:3], ONE + ((),), list(ONE), set()):
            self.wrong(thing)

    def test_widths(self):
        for widths in (
            [1, 2, 1], (1, 2), (1, 2, 1, 1), (), None, 3, "121", (1, 0, 1), (1, -2, 1), (True, 2, 1), (1, 2, True),
            (1, 2.0, 1), (1, None, 1), (1, "2", 1), (1, 2, (1,)), (1, 1, 1), {1: 0, 2: 0, 3: 0},
        ):
            self.wrong(("trellis", widths) + ONE[2:])
        self.wrong(("trellis", (), [], ()))
        self.wrong(("trellis", (0,), [], ()))
        self.wrong(("trellis", (0, 1), [[]], (0,)))

    def test_layers(self):
        for layers in (
            tuple(ONE[2]), [], ONE[2][:1], ONE[2] + [[]], None, 2, "ab", [tuple(ONE[2][0]), ONE[2][1]],
            [None, ONE[2][1]], [0, ONE[2][1]], ["", ONE[2][1]], [{}, ONE[2][1]],
        ):
            self.wrong(("trellis", ONE[1], layers, ONE[3]))
        self.wrong(("trellis", (1,), [[]], (0,)))
        self.wrong(("trellis", (1,), (), (0,)))
        self.wrong(("trellis", (1,), None, (0,)))

    def test_edges(self):
        self.right(self.with_edges((2, 2, 0, 0)))
        for edge in (
            [0, 0, 0, 0], (0, 0, 0), (0, 0, 0, 0, 0), (), None, 7, "0000", (3, 0, 0, 0), (0, 3, 0, 0), (-1, 0, 0, 0),
            (0, -1, 0, 0), (0, 0, -1, 0), (0, 0, 0, -1),
        ):
            self.wrong(self.with_edges(edge))
            self.wrong(self.with_edges((0, 0, 0, 0), edge))
        for at in range(4):
            for thing in (True, False, None, 0.0, "0", (0,), [0], 1.0):
                edge = [0, 0, 0, 0]
                edge[at] = thing
                self.wrong(self.with_edges(tuple(edge)))
        # The rooms of both times have their own ranges.
        self.wrong(self.with_edges((1, 0, 0, 0), widths=(1, 3)))
        self.wrong(self.with_edges((0, 1, 0, 0), widths=(3, 1)))

    def test_the_order_of_edges(self):
        self.right(self.with_edges((0, 2, 0, 9), (0, 1, 1, 8), (1, 0, 0, 0)))
        self.wrong(self.with_edges((0, 0, 1, 0), (0, 0, 0, 0)))
        self.wrong(self.with_edges((1, 0, 0, 0), (0, 0, 1, 0)))
        self.wrong(self.with_edges((0, 0, 1, 0), (0, 1, 1, 0)))
        self.wrong(self.with_edges((0, 0, 1, 0), (0, 0, 1, 5)))
        self.wrong(self.with_edges((0, 0, 1, 0), (0, 0, 1, 0)))
        self.wrong(self.with_edges((0, 0, 0, 0), (0, 0, 1, 0), (1, 0, 0, 0), (1, 0, 0, 1)))
        self.wrong(("trellis", (1, 1, 1), [[(0, 0, 0, 0)], [(0, 0, 1, 0), (0, 0, 0, 0)]], (0,)))

    def test_ends(self):
        for ends in ((), (0,), (2,), (0, 2), (0, 1, 2)):
            self.right(("trellis", (1, 3), [[]], ends))
        for ends in (
            [0], [], None, 0, "0", (1, 0), (0, 0), (0, 1, 1), (3,), (-1,), (0, 3), (True,), (False,), (0, True),
            (None,), (0.0,), ("0",), ((0,),), {0: 0},
        ):
            self.wrong(("trellis", (1, 3), [[]], ends))
        self.wrong(("trellis", (3, 1), [[]], (1,)))
        self.wrong(("trellis", (2,), [], (2,)))


class Costs(unittest.TestCase):
    def test_the_costs_of_paths(self):
        self.assertEqual(cost_of(ONE, [0, 0]), 3)
        self.assertEqual(cost_of(ONE, [1, 0]), 3)
        self.assertEqual(cost_of(ONE, [1, 1]), 5)

    def test_lists_that_are_no_paths(self):
        for labels in ([], [0], [0, 0, 0], [0, 1], [2, 0], [-1, 0], [0, -1], [10 ** 30, 0], [1, 2]):
            self.assertIsNone(cost_of(ONE, labels), labels)

    def test_not_at_an_end(self):
        trellis = ("trellis", (1, 3), [[(0, 0, 0, 1), (0, 1, 1, 2), (0, 2, 2, 3)]], (0, 2))
        self.assertEqual([cost_of(trellis, [label]) for label in range(4)], [1, None, 3, None])

    def test_a_path_begins_in_the_room_0(self):
        trellis = ("trellis", (2, 1), [[(1, 0, 0, 1)]], (0,))
        self.assertIsNone(cost_of(trellis, [0]))
        self.assertIsNone(best_path(trellis))

    def test_one_time(self):
        self.assertEqual(cost_of(("trellis", (1,), [], (0,)), []), 0)
        self.assertEqual(cost_of(("trellis", (3,), [], (0, 2)), []), 0)
        self.assertIsNone(cost_of(("trellis", (3,), [], (1, 2)), []))
        self.assertIsNone(cost_of(("trellis", (1,), [], ()), []))
        self.assertIsNone(cost_of(("trellis", (1,), [], (0,)), [0]))

    def test_all_lists_of_labels(self):
        for trellis in trellises(52, 80):
            costs = {tuple(labels): cost for labels, cost in paths_through(trellis)}
            for length in (len(trellis[2]), len(trellis[2]) + 1):
                for labels in itertools.product(range(3), repeat=length):
                    self.assertEqual(cost_of(trellis, list(labels)), costs.get(labels))


class Best(unittest.TestCase):
    def test_by_a_slow_search(self):
        several, alone, none = 0, 0, 0
        for trellis in trellises(53, 600, most_times=5, most_cost=2):
            ranked = sorted(paths_through(trellis), key=lambda path: (path[1], path[0]))
            self.assertEqual(best_path(trellis), ranked[0] if ranked else None)
            self.assertEqual(two_best(trellis), ranked[:2])
            several += len([path for path in ranked if path[1] == ranked[0][1]]) > 2
            alone += len(ranked) == 1
            none += len(ranked) == 0
        self.assertGreater(min(several, alone, none), 20)

    def test_the_least_list_is_not_that_of_the_least_rooms(self):
        trellis = ("trellis", (1, 2, 1), [[(0, 1, 0, 1), (0, 0, 1, 1)], [(0, 0, 0, 1), (1, 0, 2, 1)]], (0,))
        self.assertEqual(two_best(trellis), [([0, 2], 2), ([1, 0], 2)])

    def test_a_dear_edge_first(self):
        trellis = ("trellis", (1, 2, 1), [[(0, 0, 0, 0), (0, 1, 1, 5)], [(0, 0, 0, 9), (1, 0, 0, 0)]], (0,))
        self.assertEqual(two_best(trellis), [([1, 0], 5), ([0, 0], 9)])

    def test_one_path_alone(self):
        trellis = ("trellis", (1, 2, 2), [[(0, 0, 3, 2), (0, 1, 4, 0)], [(0, 1, 5, 0), (1, 0, 0, 0)]], (1,))
        self.assertEqual(best_path(trellis), ([3, 5], 2))
        self.assertEqual(two_best(trellis), [([3, 5], 2)])

    def test_none(self):
        for trellis in (("trellis", (1, 1), [[]], (0,)), ("trellis", (1, 1), [[(0, 0, 0, 0)]], ()), ("trellis", (1,), [], ())):
            self.assertIsNone(best_path(trellis))
            self.assertEqual(two_best(trellis), [])

    def test_one_time(self):
        self.assertEqual(best_path(("trellis", (2,), [], (0, 1))), ([], 0))
        self.assertEqual(two_best(("trellis", (2,), [], (0, 1))), [([], 0)])
        self.assertIsNone(best_path(("trellis", (2,), [], (1,))))

    def test_several_ends(self):
        trellis = ("trellis", (1, 3), [[(0, 2, 0, 4), (0, 0, 1, 4), (0, 1, 2, 1)]], (0, 2))
        self.assertEqual(two_best(trellis), [([0], 4), ([1], 4)])


def apart_by_hand(trellis, labels):
    """Point 5.3, word by word."""
    _, widths, layers, ends = trellis
    if len(widths) == 1:
        return ("trellis", (1,), [], ())
    rooms = [0]
    for layer, label in zip(layers, labels):
        rooms.append([after for room, after, told, _ in layer if (room, told) == (rooms[-1], label)][0])
    found = []
    for at, layer in enumerate(layers):
        edges = [] if at == 0 else list(layer)
        still = 0 if at == 0 else widths[at]
        for room, after, label, cost in layer:
            if room == rooms[at]:
                edges.append((still, widths[at + 1] if label == labels[at] else after, label, cost))
        found.append(edges)
    return ("trellis", (1,) + tuple(width + 1 for width in widths[1:]), found, ends)


class Apart(unittest.TestCase):
    def test_whole(self):
        self.assertEqual(apart(ONE, [0, 0]), (
            "trellis", (1, 3, 2),
            [[(0, 2, 0, 3), (0, 1, 1, 1)], [(0, 0, 0, 0), (1, 0, 0, 2), (1, 0, 1, 4), (2, 1, 0, 0)]], (0,),
        ))
        self.assertEqual(apart(ONE, [1, 1]), (
            "trellis", (1, 3, 2),
            [[(0, 0, 0, 3), (0, 2, 1, 1)],
             [(0, 0, 0, 0), (1, 0, 0, 2), (1, 0, 1, 4), (2, 0, 0, 2), (2, 1, 1, 4)]], (0,),
        ))

    def test_one_time_alone(self):
        self.assertEqual(apart(("trellis", (1,), [], (0,)), []), ("trellis", (1,), [], ()))
        self.assertEqual(apart(("trellis", (4,), [], (0, 3)), []), ("trellis", (1,), [], ()))

    def test_several_rooms_of_the_first_time(self):
        trellis = ("trellis", (2, 2), [[(0, 1, 0, 1), (0, 0, 1, 2), (1, 0, 0, 0)]], (0, 1))
        self.assertEqual(apart(trellis, [1]), ("trellis", (1, 3), [[(0, 1, 0, 1), (0, 2, 1, 2)]], (0, 1)))

    def test_each_path_of_many_trellises(self):
        many = 0
        for trellis in trellises(54, 150):
            paths = paths_through(trellis)
            for labels, cost in paths:
                told = apart(trellis, labels)
                self.assertEqual(told, apart_by_hand(trellis, labels))
                self.assertIs(is_trellis(told), True)
                self.assertEqual(sorted(paths_through(told)), [path for path in paths if path[0] != labels])
                many += 1
        self.assertGreater(many, 200)


class Kept(unittest.TestCase):
    def test_arguments_stay_and_results_are_new(self):
        for trellis in [ONE] + trellises(55, 30):
            trellis = copy.deepcopy(trellis)
            stands_alone(self, is_trellis, trellis)
            stands_alone(self, check_trellis, trellis)
            stands_alone(self, best_path, trellis)
            stands_alone(self, two_best, trellis)
            for labels, _ in paths_through(trellis)[:3]:
                stands_alone(self, cost_of, trellis, labels)
                stands_alone(self, apart, trellis, labels)


if __name__ == "__main__":
    unittest.main()
