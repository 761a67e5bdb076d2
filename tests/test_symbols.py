"""Points 2.2 to 2.4."""

import random
import unittest

from heardtrue.symbols import (
    bits_of, check_symbols, closeness, levels, nearest, number_of, points_of, row_near, square,
)
from support import fault, stands_alone


def symbols_of(bits, points):
    return ("symbols", bits, tuple(points))


def straight(bits):
    return [(2 * at, 7) for at in range(2 ** bits)]


class Numbers(unittest.TestCase):
    def test_the_highest_bit_comes_first(self):
        self.assertEqual([number_of([]), number_of([1]), number_of([1, 1, 0]), number_of([0, 1])], [0, 1, 6, 1])
        self.assertEqual(number_of([1] + [0] * 300), 2 ** 300)

    def test_the_lowest_bits_of_a_number(self):
        self.assertEqual([bits_of(6, 3), bits_of(6, 4), bits_of(6, 2), bits_of(6, 0)], [[1, 1, 0], [0, 1, 1, 0], [1, 0], []])
        self.assertEqual([bits_of(0, 0), bits_of(0, 3), bits_of(2 ** 300 + 1, 2)], [[], [0, 0, 0], [0, 1]])

    def test_there_and_back(self):
        for many in range(6):
            for number in range(2 ** many):
                self.assertEqual(number_of(bits_of(number, many)), number)


class RightSymbols(unittest.TestCase):
    def test_one_to_four_bits(self):
        for bits in range(1, 5):
            self.assertIsNone(check_symbols(symbols_of(bits, straight(bits))))
        self.assertIsNone(check_symbols(symbols_of(1, [(-3, -2), (5, 0)])))

    def test_parts_at_their_edges(self):
        self.assertIsNone(check_symbols(symbols_of(1, [(-1000, -1000), (1000, 1000)])))
        self.assertIsNone(check_symbols(symbols_of(1, [(-1000, 1000), (1000, -1000)])))

    def test_points_that_share_one_part(self):
        self.assertIsNone(check_symbols(symbols_of(2, [(0, 0), (0, 2), (2, 0), (2, 2)])))


class WrongSymbols(unittest.TestCase):
    def test_bits(self):
        for bits in (0, -1, 5, -(10 ** 30), 10 ** 30):
            self.assertEqual(fault(check_symbols, symbols_of(bits, straight(1))), "bits")
        self.assertEqual(fault(check_symbols, symbols_of(0, [(0, 0)])), "bits")
        self.assertEqual(fault(check_symbols, symbols_of(5, straight(5))), "bits")

    def test_many(self):
        for bits in range(1, 5):
            right = straight(bits)
            for points in ([], right[:-1], right + [(0, 9)]):
                self.assertEqual(fault(check_symbols, symbols_of(bits, points)), "many")

    def test_point(self):
        wrong = [
            [2, 7], (2,), (2, 7, 0), (), 2, None, "27", True, {2: 7}, (True, 7), (2, False), (2, None), (2, "7"),
            (2.0, 7), ((2, 7), 7), (1001, 7), (-1001, 7), (2, 1001), (2, -1001), (10 ** 30, 7),
        ]
        for thing in wrong:
            for points in ([(0, 7), thing], [thing, (0, 7)]):
                self.assertEqual(fault(check_symbols, symbols_of(1, points)), "point", thing)

    def test_alike(self):
        for points in ([(0, 0), (1, 0)], [(0, 0), (0, 1)], [(0, 0), (-1, -1)], [(-3, 2), (3, -1)]):
            self.assertEqual(fault(check_symbols, symbols_of(1, points)), "alike")
        self.assertEqual(fault(check_symbols, symbols_of(2, [(0, 0), (2, 0), (4, 0), (6, 1)])), "alike")

    def test_twice(self):
        self.assertEqual(fault(check_symbols, symbols_of(1, [(1, 1), (1, 1)])), "twice")
        self.assertEqual(fault(check_symbols, symbols_of(2, [(1, 1), (3, 1), (5, 1), (1, 1)])), "twice")

    def test_of_several_faults_the_first_one(self):
        self.assertEqual(fault(check_symbols, symbols_of(5, [None])), "bits")
        self.assertEqual(fault(check_symbols, symbols_of(0, [(1, 1), (1, 1)])), "bits")
        self.assertEqual(fault(check_symbols, symbols_of(2, [None, (0, 1)])), "many")
        self.assertEqual(fault(check_symbols, symbols_of(1, [(1, 1), (1, 1), (0, 0)])), "many")
        self.assertEqual(fault(check_symbols, symbols_of(2, [(0, 0), (1, 0), (0, 0), (0, 2000)])), "point")
        self.assertEqual(fault(check_symbols, symbols_of(2, [(1, 1), (1, 1), (1, 1), [1, 1]])), "point")
        self.assertEqual(fault(check_symbols, symbols_of(2, [(1, 1), (1, 1), (1, 1), (1, 2)])), "alike")

    def test_the_parts_of_true_are_no_integers(self):
        self.assertEqual(fault(check_symbols, symbols_of(1, [(1, 1), (True, True)])), "point")


class Made(unittest.TestCase):
    def test_levels_whole(self):
        self.assertEqual(levels(1), ("symbols", 1, ((-1, 0), (1, 0))))
        self.assertEqual(levels(2), ("symbols", 2, ((-3, 0), (-1, 0), (3, 0), (1, 0))))
        self.assertEqual(levels(3), symbols_of(3, [(x, 0) for x in (-7, -5, -1, -3, 7, 5, 1, 3)]))
        four = (-15, -13, -9, -11, -1, -3, -7, -5, 15, 13, 9, 11, 1, 3, 7, 5)
        self.assertEqual(levels(4), symbols_of(4, [(x, 0) for x in four]))

    def test_neighbours_differ_in_one_bit(self):
        for bits in range(1, 5):
            points = levels(bits)[2]
            order = sorted(range(2 ** bits), key=lambda index: points[index])
            for one, other in zip(order, order[1:]):
                self.assertEqual(bin(one ^ other).count("1"), 1)

    def test_squares_whole(self):
        self.assertEqual(square(2), ("symbols", 2, ((-1, -1), (-1, 1), (1, -1), (1, 1))))
        parts = (-3, -1, 3, 1)
        self.assertEqual(square(4), symbols_of(4, [(x, y) for x in parts for y in parts]))

    def test_they_are_right_symbols(self):
        for symbols in (levels(1), levels(2), levels(3), levels(4), square(2), square(4)):
            self.assertIsNone(check_symbols(symbols))

    def test_other_integers(self):
        for bits in (0, -1, 5, 6, 8, 10 ** 30, -(10 ** 30)):
            self.assertEqual(fault(levels, bits), "bits")
        for bits in (0, 1, 3, 5, 6, 8, -2, -4, 10 ** 30, -(10 ** 30)):
            self.assertEqual(fault(square, bits), "bits")


class PointsOfRows(unittest.TestCase):
    def test_groups_in_order(self):
        self.assertEqual(points_of(levels(1), [0, 1, 1]), [(-1, 0), (1, 0), (1, 0)])
        self.assertEqual(points_of(levels(2), [1, 0, 0, 1]), [(3, 0), (-1, 0)])
        self.assertEqual(points_of(square(4), [0, 1, 1, 0]), [(-1, 3)])

    def test_the_empty_row(self):
        for bits in range(1, 5):
            self.assertEqual(points_of(levels(bits), []), [])

    def test_bits_that_do_not_come_out_even(self):
        for bits in range(2, 5):
            for many in range(1, 13):
                wanted = None if many % bits == 0 else "row"
                self.assertEqual(fault(points_of, levels(bits), [0] * many), wanted)

    def test_there_and_back(self):
        source = random.Random(24)
        for symbols in (levels(1), levels(3), square(2), square(4)):
            row = [source.randrange(2) for _ in range(12 * symbols[1])]
            self.assertEqual(row_near(symbols, points_of(symbols, row)), row)


class Nearest(unittest.TestCase):
    def test_the_nearest_one(self):
        self.assertEqual([nearest(levels(2), (x, 0)) for x in (-9, -3, -1, 1, 3, 9)], [0, 0, 1, 3, 2, 2])
        self.assertEqual(nearest(square(2), (10 ** 40, -(10 ** 40))), 2)

    def test_of_several_ones_the_least_index(self):
        self.assertEqual(nearest(square(2), (0, 0)), 0)
        self.assertEqual(nearest(square(2), (1, 0)), 2)
        self.assertEqual(nearest(square(2), (0, 1)), 1)
        self.assertEqual(nearest(levels(2), (2, 50)), 2)
        self.assertEqual(nearest(levels(2), (0, 0)), 1)

    def test_both_parts_count(self):
        symbols = symbols_of(1, [(0, 10), (6, 0)])
        self.assertEqual([nearest(symbols, (0, 0)), nearest(symbols, (0, 8)), nearest(symbols, (-1, 6))], [1, 0, 0])

    def test_rows(self):
        self.assertEqual(row_near(square(2), []), [])
        self.assertEqual(row_near(levels(3), [(8, 1), (0, 0)]), [1, 0, 0, 0, 1, 0])

    def test_by_trying_all(self):
        source = random.Random(25)
        for symbols in (levels(3), square(4), symbols_of(2, [(4, 1), (-2, 3), (0, -5), (4, 5)])):
            for _ in range(100):
                x, y = source.randint(-8, 8), source.randint(-8, 8)
                sizes = [(x - a) ** 2 + (y - b) ** 2 for a, b in symbols[2]]
                self.assertEqual(nearest(symbols, (x, y)), min((far, at) for at, far in enumerate(sizes))[1])


class Closeness(unittest.TestCase):
    def test_made_symbols(self):
        for symbols in (levels(1), levels(2), levels(3), levels(4), square(2), square(4)):
            self.assertEqual(closeness(symbols), 4)

    def test_others(self):
        self.assertEqual(closeness(symbols_of(1, [(-1000, -1000), (1000, 1000)])), 8000000)
        self.assertEqual(closeness(symbols_of(2, [(0, 0), (100, 0), (0, 100), (94, 8)])), 100)
        self.assertEqual(closeness(symbols_of(2, [(0, 0), (6, 8), (100, 0), (0, 100)])), 100)


class Kept(unittest.TestCase):
    def test_arguments_stay_and_results_are_new(self):
        stands_alone(self, number_of, [1, 0, 1])
        stands_alone(self, bits_of, 5, 4)
        stands_alone(self, levels, 3)
        stands_alone(self, square, 4)
        stands_alone(self, check_symbols, square(2))
        stands_alone(self, points_of, square(2), [0, 1, 1, 1])
        stands_alone(self, nearest, square(2), (3, 3))
        stands_alone(self, row_near, square(2), [(3, 3), (0, 0)])
        stands_alone(self, closeness, square(2))
        for symbols in (levels(1), square(2)):
            stands_alone(self, points_of, symbols, [])
            stands_alone(self, row_near, symbols, [])


if __name__ == "__main__":
    unittest.main()
