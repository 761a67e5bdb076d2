"""What samples cost against the lines of a box: a form of the second degree in the parts of the taps."""

from math import isqrt

from heardtrue.errors import ShapeError

def rows_at(points, taps, at, sample):
    """By what the parts of the taps, and 1, are multiplied to make the two parts of the difference to a sample."""
    row, other = [], []
    for tap in range(taps):
        x, y = points[at - tap] if 0 <= at - tap < len(points) else (0, 0)
        row.extend([x, -y])
        other.extend([y, x])
    return (row + [-sample[0]], other + [-sample[1]])


def table_of(points, taps, samples):
    """The table of the form that the cost is."""
    many = 2 * taps + 1
    table = [[0] * many for _ in range(many)]
    for at, sample in enumerate(samples):
        if sample is not None:
            for row in rows_at(points, taps, at, sample):
                for i in range(many):
                    for j in range(many):
                        table[i][j] += row[i] * row[j]
    return table


class Form:
    """The cost of lines, step by step: numbers are the parts of the taps, taken from the last one to the first one.

    The divisors are those of the steps. The bound of some last numbers, times the divisor of the step of the first one
    of them, is an integer, their measure. A form that tells lines apart has divisors that are all greater than 0.
    """

    def __init__(self, points, taps, samples):
        if len(samples) != len(points) + taps - 1:
            raise ShapeError("samples")
        self.many = 2 * taps
        self.table = table_of(points, taps, samples)
        self.divisors = [1]
        while len(self.divisors) <= self.many and self.divisors[-1] > 0:
            self.eliminate(len(self.divisors) - 1)

    def eliminate(self, k):
        """Does the step k."""
        table, divisor = self.table, self.divisors[k]
        lead = table[k][k]
        self.divisors.append(lead)
        if lead > 0:
            for i in range(k + 1, self.many + 1):
                for j in range(k + 1, self.many + 1):
                    # Row k is not changed any more; column k is, so it is read as row k.
                    table[i][j] = (table[i][j] * lead - table[k][i] * table[k][j]) // divisor

    def tells_apart(self):
        """True if the samples that came tell lines apart."""
        return self.divisors[-1] > 0

    def least_measure(self):
        """The measure of no numbers."""
        return self.table[self.many][self.many]

    def rest(self, k, numbers):
        """What the numbers behind the place k, the place k + 1 first, add to the step's sum."""
        return sum([a * b for a, b in zip(self.table[k][k + 1:], [*numbers, 1])])

    def measure(self, k, value, rest, behind):
        """The measure of a value at the place k and of the numbers behind it, by that of these."""
        told = self.divisors[k + 1] * value + rest
        return (behind * self.divisors[k] + told * told) // self.divisors[k + 1]

    def span(self, k, rest, behind, cost):
        """The least and the greatest value at the place k for which the bound is at most a cost, or None."""
        lead = self.divisors[k + 1]
        room = self.divisors[k] * (cost * lead - behind)
        if room < 0:
            return None
        most = isqrt(room)
        low, high = -((most + rest) // lead), (most - rest) // lead
        return (low, high) if low <= high else None


def taps_of(numbers):
    """The taps whose parts are these numbers."""
    return tuple([(numbers[at], numbers[at + 1]) for at in range(0, len(numbers), 2)])


def numbers_of(taps):
    """The parts of taps."""
    return [part for tap in taps for part in tap]
