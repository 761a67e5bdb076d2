"""Lines of a box by the words of the document: all of them, one by one."""

import random
from fractions import Fraction
from itertools import product

from support import any_points, smeared_by_hand


def box(taps, bound):
    """All tuples of taps of the lines of a box, ascending."""
    points = list(product(range(-bound, bound + 1), repeat=2))
    return [told for told in product(points, repeat=taps) if any(tap != (0, 0) for tap in told)]


def cost_of_taps(points, taps, samples):
    made = smeared_by_hand(("line", taps), list(points))
    assert len(made) == len(samples)
    return sum((a - c) ** 2 + (b - d) ** 2 for (a, b), (c, d) in [(p, s) for p, s in zip(made, samples) if s is not None])


def costs_in_box(points, taps, bound, samples):
    """All lines of the box with their costs, the nearest ones first."""
    return sorted((cost_of_taps(points, told, samples), told) for told in box(taps, bound))


def verdict_by_hand(ranked):
    """Point 22.2."""
    if len(ranked) == 1 or ranked[0][0] < ranked[1][0]:
        return ("line", ranked[0][1], ranked[0][0])
    return ("tie", ranked[0][1], ranked[1][1], ranked[0][0])


def table_by_hand(points, taps, samples):
    """The table M of point 22.3, of the costs themselves: M(i, j) of those of sums of unit numbers."""
    n = 2 * taps

    def cost(numbers):
        told = tuple((numbers[at], numbers[at + 1]) for at in range(0, n, 2))
        made = smeared_by_hand(("line", told), list(points))
        return sum((a - c) ** 2 + (b - d) ** 2 for (a, b), (c, d) in [(p, s) for p, s in zip(made, samples) if s is not None])

    def unit(*places):
        return [1 if at in places else 0 for at in range(n)]

    rest = cost(unit())
    ahead = [Fraction(cost(unit(i)) - cost([-item for item in unit(i)]), 4) for i in range(n)]
    square = [cost(unit(i)) - rest - 2 * ahead[i] for i in range(n)]
    table = [[None] * (n + 1) for _ in range(n + 1)]
    for i in range(n):
        for j in range(n):
            both = Fraction(cost(unit(i, j)) - rest, 2) - ahead[i] - ahead[j] - Fraction(square[i] + square[j], 2)
            table[i][j] = square[i] if i == j else both
        table[i][n] = table[n][i] = ahead[i]
    table[n][n] = Fraction(rest)
    return table


def steps_by_hand(table):
    """The numbers d and the table U of point 22.3, up to the first d that is 0."""
    n = len(table) - 1
    divisors = [Fraction(1)]
    told = [list(row) for row in table]
    for k in range(n):
        divisors.append(told[k][k])
        if told[k][k] == 0:
            break
        before = [list(row) for row in told]
        for i in range(k + 1, n + 1):
            for j in range(k + 1, n + 1):
                told[i][j] = (before[i][j] * before[k][k] - before[i][k] * before[k][j]) / divisors[k]
                assert told[i][j].denominator == 1
    return divisors, told


def tells_apart_by_hand(points, taps, samples):
    divisors, _ = steps_by_hand(table_by_hand(points, taps, samples))
    return all(divisor > 0 for divisor in divisors)


class SlowTrees:
    """The check of papers by the words of point 22.5, with fractions."""

    def __init__(self, points, taps, bound, samples):
        self.points, self.taps, self.bound, self.samples = points, taps, bound, samples
        self.divisors, self.table = steps_by_hand(table_by_hand(points, taps, samples))
        self.n = 2 * taps

    def bound_of(self, k, numbers):
        """Point 22.4: the bound of the numbers v(k), v(k + 1) and so on."""
        v = [None] * k + list(numbers) + [1]
        told = Fraction(self.table[self.n][self.n]) / self.divisors[self.n]
        for at in range(k, self.n):
            row = sum(self.table[at][j] * v[j] for j in range(at, self.n + 1))
            told += Fraction(row * row) / (self.divisors[at] * self.divisors[at + 1])
        return told

    def tree(self, told, k=None, numbers=(), greater=True):
        """A tree for told taps in which each value is taken whose bound is not too great."""
        k = self.n - 1 if k is None else k
        cost = cost_of_taps(self.points, told, self.samples)
        parts = []
        for value in range(-self.bound, self.bound + 1):
            if self.bound_of(k, (value,) + numbers) > cost:
                parts.append(("cut", value, value))
            else:
                inner = self.tree(told, k - 1, (value,) + numbers) if k else None
                parts.append(("take", value, inner))
        return parts


def any_known(source, many, most):
    while True:
        points = tuple(any_points(source, many, most))
        if any(point != (0, 0) for point in points):
            return points


def learning_cases(seed, many):
    """Points, taps, bounds and samples that tell lines apart or not, in small boxes."""
    source = random.Random(seed)
    found = []
    for _ in range(many):
        taps, bound = source.choice(((1, 1), (1, 2), (1, 3), (1, 6), (2, 1), (2, 2), (3, 1)))
        points = any_known(source, source.randint(1, 5), source.choice((1, 1, 3, 9)))
        line = source.choice(box(taps, bound))
        samples = smeared_by_hand(("line", line), list(points))
        noise = any_points(source, len(samples), source.choice((0, 1, 1, 4, 30)))
        samples = [(a + c, b + d) for (a, b), (c, d) in zip(samples, noise)]
        likely = source.choice((0, 0, 0.2))
        samples = [None if source.random() < likely else sample for sample in samples]
        found.append((points, taps, bound, samples))
    return found
