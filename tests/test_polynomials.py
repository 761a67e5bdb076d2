"""Points 9.3 to 9.5: polynomials over a field."""

import random
import unittest
from itertools import product

from heardtrue.fields import Field
from heardtrue.polynomials import divided, plus, roots, slope, through, times, trimmed, value
from slowfields import carried, value_of
from support import stands_alone

FIELDS = [Field(2, 7), Field(3, 11), Field(4, 25), Field(8, 285)]


def any_poly(source, field, most):
    """A polynomial with at most so many coefficients."""
    row = [source.randrange(field.size) for _ in range(source.randint(0, most))]
    return row[:-1] + [source.randrange(1, field.size)] if row else []


def times_by_hand(field, f, g):
    sums = [0] * (len(f) + len(g) - 1) if f and g else []
    for i, a in enumerate(f):
        for j, b in enumerate(g):
            sums[i + j] ^= carried(a, b, field.m, field.poly)
    return sums


class Sums(unittest.TestCase):
    def test_trimmed(self):
        self.assertEqual(trimmed([]), [])
        self.assertEqual(trimmed([0]), [])
        self.assertEqual(trimmed([0, 0, 0]), [])
        self.assertEqual(trimmed([0, 1, 0, 0]), [0, 1])
        self.assertEqual(trimmed([0, 1]), [0, 1])

    def test_plus(self):
        self.assertEqual(plus([1, 2, 3], [1, 2, 3]), [])
        self.assertEqual(plus([1, 2, 3], [0, 1, 3]), [1, 3])
        self.assertEqual(plus([1, 2, 3], [3]), [2, 2, 3])
        self.assertEqual(plus([3], [1, 2, 3]), [2, 2, 3])
        self.assertEqual([plus([], [1]), plus([1], []), plus([], [])], [[1], [1], []])

    def test_times(self):
        source = random.Random(150)
        for field in FIELDS:
            for _ in range(100):
                f, g = any_poly(source, field, 6), any_poly(source, field, 6)
                self.assertEqual(times(field, f, g), times_by_hand(field, f, g))
            self.assertEqual([times(field, [], [1, 1]), times(field, [1, 1], []), times(field, [], [])], [[], [], []])
            self.assertEqual(times(field, [0, 1], [0, 0, 3]), [0, 0, 0, 3])


class Quotients(unittest.TestCase):
    def test_by_hand(self):
        field = Field(3, 11)
        self.assertEqual(divided(field, [3, 6, 1], [2, 1]), ([4, 1], []))
        self.assertEqual(divided(field, [], [2, 1]), ([], []))
        self.assertEqual(divided(field, [5], [2, 1]), ([], [5]))
        self.assertEqual(divided(field, [5], [2]), ([field.times(5, field.inverse(2))], []))
        self.assertEqual(divided(field, [0, 0, 1], [0, 1]), ([0, 1], []))

    def test_the_dividend_is_quotient_times_divisor_and_rest(self):
        source = random.Random(151)
        for field in FIELDS:
            for _ in range(200):
                f, g = any_poly(source, field, 9), any_poly(source, field, 6)
                if g:
                    quotient, rest = divided(field, f, g)
                    self.assertEqual(plus(times(field, quotient, g), rest), f)
                    self.assertLess(len(rest), len(g))
                    for part in (quotient, rest):
                        self.assertEqual(part, trimmed(part))
                    self.assertEqual(divided(field, times(field, f, g), g), (f, []))


class Values(unittest.TestCase):
    def test_value(self):
        source = random.Random(152)
        for field in FIELDS:
            for _ in range(60):
                f = any_poly(source, field, 8)
                for at in (0, 1, source.randrange(field.size)):
                    self.assertEqual(value(field, f, at), value_of(field.m, field.poly, f, at))
            self.assertEqual([value(field, [], 1), value(field, [3], 2), value(field, [3, 1], 0)], [0, 3, 3])

    def test_slope(self):
        self.assertEqual(slope([5, 6, 7, 3, 2]), [6, 0, 3])
        self.assertEqual([slope([]), slope([5]), slope([5, 6]), slope([5, 0, 7]), slope([1, 2, 3])], [[], [], [6], [], [2]])

    def test_roots(self):
        field = Field(3, 11)
        self.assertEqual([roots(field, [1]), roots(field, [7]), roots(field, [0, 1]), roots(field, [0, 0, 5])], [[], [], [0], [0]])
        # x to the power 8, less x, is 0 everywhere.
        self.assertEqual(roots(field, [0, 1, 0, 0, 0, 0, 0, 0, 1]), list(range(8)))
        for picked in product(range(8), repeat=3):
            f = [3]
            for at in picked:
                f = times(field, f, [at, 1])
            self.assertEqual(roots(field, f), sorted(set(picked)))
            for at in range(8):
                double = value(field, f, at) == 0 and value(field, slope(f), at) == 0
                self.assertEqual(double, picked.count(at) > 1)

    def test_of_any(self):
        source = random.Random(153)
        for field in FIELDS[:3]:
            for _ in range(50):
                f = any_poly(source, field, 5) or [1]
                wanted = [at for at in range(field.size) if value_of(field.m, field.poly, f, at) == 0]
                self.assertEqual(roots(field, f), wanted)


class Through(unittest.TestCase):
    def test_by_hand(self):
        field = Field(3, 11)
        self.assertEqual(through(field, []), [])
        self.assertEqual(through(field, [(5, 3)]), [3])
        self.assertEqual(through(field, [(5, 0)]), [])
        self.assertEqual(through(field, [(0, 3), (1, 2)]), [3, 1])
        self.assertEqual(through(field, [(0, 3), (1, 3), (2, 3)]), [3])

    def test_the_only_one(self):
        field = Field(2, 7)
        for many in range(1, 4):
            for values in product(range(4), repeat=many):
                pairs = list(zip((2, 0, 3), values))
                fits = [
                    trimmed(list(f)) for f in product(range(4), repeat=many)
                    if all(value_of(2, 7, f, at) == told for at, told in pairs)
                ]
                self.assertEqual([through(field, pairs)], fits)

    def test_up_to_all_elements(self):
        source = random.Random(154)
        for field in FIELDS:
            for many in (1, 2, field.size // 2, field.size - 1, field.size):
                places = source.sample(range(field.size), many)
                pairs = [(at, source.randrange(field.size)) for at in places]
                f = through(field, pairs)
                self.assertLessEqual(len(f), many)
                self.assertEqual(f, trimmed(f))
                self.assertEqual([(at, value(field, f, at)) for at in places], pairs)
                self.assertEqual(through(field, pairs[::-1]), f)


class Kept(unittest.TestCase):
    def test_arguments_stay_and_results_are_new(self):
        field = Field(3, 11)
        stands_alone(self, trimmed, [1, 2, 0])
        stands_alone(self, trimmed, [1, 2])
        stands_alone(self, plus, [1, 2], [])
        stands_alone(self, plus, [], [1, 2])
        stands_alone(self, plus, [1, 2], [3])
        stands_alone(self, lambda f, g: times(field, f, g), [1, 2], [1])
        stands_alone(self, lambda f, g: divided(field, f, g), [1, 2], [3, 1, 1])
        stands_alone(self, lambda f, g: divided(field, f, g), [1, 2, 4], [1])
        stands_alone(self, lambda f: value(field, f, 3), [1, 2, 4])
        stands_alone(self, slope, [1, 2, 4])
        stands_alone(self, lambda f: roots(field, f), [1, 2, 4])
        stands_alone(self, lambda pairs: through(field, pairs), [(1, 2), (3, 3)])


if __name__ == "__main__":
    unittest.main()
