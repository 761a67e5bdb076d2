"""Point 2.1."""

import random
import unittest

from heardtrue.points import minus, plus, size, times, total, turned
from support import stands_alone

GREAT = 10 ** 60


class Sums(unittest.TestCase):
    def test_small_and_negative_parts(self):
        self.assertEqual(plus((1, 2), (3, -5)), (4, -3))
        self.assertEqual(minus((1, 2), (3, -5)), (-2, 7))
        self.assertEqual(plus((0, 0), (0, 0)), (0, 0))
        self.assertEqual(minus((-1, -1), (-1, -1)), (0, 0))

    def test_very_great_parts(self):
        self.assertEqual(plus((GREAT, -GREAT), (1, 1)), (GREAT + 1, 1 - GREAT))
        self.assertEqual(minus((GREAT, -GREAT), (1, 1)), (GREAT - 1, -GREAT - 1))
        self.assertEqual(minus((GREAT + 1, 0), (GREAT, 0)), (1, 0))

    def test_minus_takes_the_second_one_away(self):
        source = random.Random(21)
        for _ in range(200):
            a, b, c, d = [source.randint(-9, 9) for _ in range(4)]
            self.assertEqual(plus((a, b), (c, d)), (a + c, b + d))
            self.assertEqual(minus((a, b), (c, d)), (a - c, b - d))


class Products(unittest.TestCase):
    def test_the_formula_of_the_document(self):
        self.assertEqual(times((1, 2), (3, 4)), (-5, 10))
        self.assertEqual(times((0, 1), (0, 1)), (-1, 0))
        self.assertEqual(times((2, -3), (-1, 5)), (13, 13))
        self.assertEqual(times((7, -7), (0, 0)), (0, 0))

    def test_very_great_parts(self):
        self.assertEqual(times((GREAT, 1), (GREAT, -1)), (GREAT * GREAT + 1, 0))

    def test_they_are_those_of_complex_numbers(self):
        source = random.Random(22)
        for _ in range(200):
            a, b, c, d = [source.randint(-99, 99) for _ in range(4)]
            product = complex(a, b) * complex(c, d)
            self.assertEqual(times((a, b), (c, d)), (int(product.real), int(product.imag)))


class Turns(unittest.TestCase):
    def test_one_quarter(self):
        self.assertEqual(turned((3, 5), 1), (-5, 3))

    def test_any_number_of_quarters(self):
        around = [(3, 5), (-5, 3), (-3, -5), (5, -3)]
        for quarters in range(-13, 14):
            self.assertEqual(turned((3, 5), quarters), around[quarters % 4])

    def test_very_great_numbers_of_quarters(self):
        self.assertEqual(turned((3, 5), 4 * GREAT), (3, 5))
        self.assertEqual(turned((3, 5), 4 * GREAT + 3), (5, -3))
        self.assertEqual(turned((3, 5), -4 * GREAT - 1), (5, -3))

    def test_a_turn_is_a_product(self):
        for quarters in range(4):
            point = (GREAT, -7)
            for _ in range(quarters):
                point = times(point, (0, 1))
            self.assertEqual(turned((GREAT, -7), quarters), point)


class Sizes(unittest.TestCase):
    def test_size(self):
        self.assertEqual([size((0, 0)), size((3, -4)), size((-1, 0)), size((0, 2))], [0, 25, 1, 4])
        self.assertEqual(size((GREAT, -GREAT)), 2 * GREAT * GREAT)

    def test_total(self):
        self.assertEqual([total([]), total([(3, 4)]), total([(1, 1), (-2, 0), (1, 1)])], [0, 25, 8])
        self.assertEqual(total([(GREAT, 0), (0, 1)]), GREAT * GREAT + 1)

    def test_size_of_a_product(self):
        self.assertEqual(size(times((3, 8), (-2, 9))), size((3, 8)) * size((-2, 9)))


class Kinds(unittest.TestCase):
    def test_points_are_tuples_of_integers(self):
        results = [plus((1, 2), (3, 4)), minus((1, 2), (3, 4)), times((1, 2), (3, 4)), turned((1, 2), 0)]
        for result in results:
            self.assertIs(result.__class__, tuple)
            self.assertEqual([part.__class__ for part in result], [int, int])

    def test_arguments_stay(self):
        stands_alone(self, total, [(1, 2), (3, 4)])


if __name__ == "__main__":
    unittest.main()
